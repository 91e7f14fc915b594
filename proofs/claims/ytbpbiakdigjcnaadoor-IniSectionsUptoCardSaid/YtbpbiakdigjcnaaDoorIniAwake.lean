/-
  The walk of the law's awake: the chapter's first example.
-/
import Derived.Test.YtbpbiakdigjcnaaDoorIniLaw0
namespace Go.Proofs.YtbpbiakdigjcnaaDoor
open Go.ChangeShapes Go.WideShapes Go.ChangeAt Go.RowKit

theorem parse_to (s : ByteArray) (out : List LineV) (en n : Int) (hp : parseB s.data.toList = (out, en, n)) (w : World) (hT : Tab w) (hI : MaxI w) (hs : s.size ≤ 4294967280) :
    Calls Tryd.prog 16 #[.string s] w fun e w' => ∃ x c, e = .returned (.tuple #[.slice x out.length c, .int .i64 en, .int .i64 n]) ∧ Below w.heap.size w w' ∧ Lns w' x out := by
  refine (parse_any s w hT hI hs).mono ?_
  rintro e w' ⟨hb, v, rfl, ho⟩
  rw [hp] at ho ⊢
  obtain ⟨x, c, rfl, hl⟩ := Lns.of_own ho rfl
  exact ⟨x, c, rfl, hb, hl⟩
theorem print_lit (ls : List LineV) (o : Option (List UInt8)) (hp : printF ls = o) (w : World) (t : TypeId) (c : Nat) (hT : Tab w) (hn : ls.length ≤ 4294967280) (hF : Fit ls) (cs : Array Value) (hcs : cs = (flatL ls).toArray) :
    Calls Tryd.prog 14 #[.slice (some ⟨w.heap.size, 0, none⟩) ls.length c] (w.alloc (Obj.cells cs t)) fun e w' => e = .returned (prnV o) ∧ Below w.heap.size w w' := by
  subst hcs
  have hb := below_one w (Obj.cells (flatL ls).toArray t)
  have hL : Lns (w.alloc (Obj.cells (flatL ls).toArray t)) (some ⟨w.heap.size, 0, none⟩) ls := Lns.of_cells (by simp) (fun j u hj => by
    rw [Nat.zero_add, World.cell?_alloc_at _ _ _ _ rfl]
    simpa using hj)
  refine (print_any _ c ls _ hL (hT.below hb) hn hF).mono ?_
  rintro e w' ⟨rfl, hb2⟩
  rw [hp]
  exact ⟨rfl, hb.trans (hb2.mono hb.size)⟩
theorem pb1 : parseB (⟨#[91, 110, 101, 116, 93, 10, 32, 112, 111, 114, 116, 32, 61, 32, 57, 48, 48, 48, 32, 10, 10, 35, 32, 120, 10, 91, 93, 10, 108, 111, 103, 46, 100, 105, 114, 61, 34, 97, 32, 98, 32, 34]⟩ : ByteArray).data.toList = ([⟨⟨#[110, 101, 116, 46, 112, 111, 114, 116]⟩, ⟨#[57, 48, 48, 48]⟩, 2⟩, ⟨⟨#[108, 111, 103, 46, 100, 105, 114]⟩, ⟨#[97, 32, 98, 32]⟩, 6⟩], 0, 0) := by kernel_rfl
theorem pb2 : parseB (⟨#[97, 32, 61, 32, 49, 10, 112, 111, 114, 116]⟩ : ByteArray).data.toList = ([], 60, 2) := by kernel_rfl
theorem pf1 : printF [⟨⟨#[97]⟩, ⟨#[120]⟩, 0⟩, ⟨⟨#[98, 46, 99]⟩, ⟨#[]⟩, 0⟩, ⟨⟨#[100]⟩, ⟨#[32, 120]⟩, 0⟩] = some (⟨#[97, 32, 61, 32, 120, 10, 98, 46, 99, 32, 61, 32, 34, 34, 10, 100, 32, 61, 32, 34, 32, 120, 34, 10]⟩ : ByteArray).data.toList := by kernel_rfl
theorem pf2 : printF [⟨⟨#[97]⟩, ⟨#[]⟩, 0⟩, ⟨⟨#[97]⟩, ⟨#[]⟩, 0⟩] = none := by kernel_rfl
set_option maxHeartbeats 1600000 in
set_option maxRecDepth 100000 in
theorem iawake_any (w : World) (hT : Tab w) (hI : MaxI w) :
    Calls Tryd.prog 9 #[] w fun e w' => e = .returned (.bool true) ∧ Below w.heap.size w w' := by
  have HT : Hid (∀ W, Below w.heap.size w W → Tab W ∧ MaxI W) := Lib.hid fun W hb => ⟨hT.below hb, maxI_below hI hb⟩
  have H1 : Hid (∀ W, Below w.heap.size w W → Calls Tryd.prog 16 #[.string ⟨#[91, 110, 101, 116, 93, 10, 32, 112, 111, 114, 116, 32, 61, 32, 57, 48, 48, 48, 32, 10, 10, 35, 32, 120, 10, 91, 93, 10, 108, 111, 103, 46, 100, 105, 114, 61, 34, 97, 32, 98, 32, 34]⟩] W fun e w' => ∃ x c, e = .returned (.tuple #[.slice x 2 c, .int .i64 0, .int .i64 0]) ∧ Below W.heap.size W w' ∧ Lns w' x [⟨⟨#[110, 101, 116, 46, 112, 111, 114, 116]⟩, ⟨#[57, 48, 48, 48]⟩, 2⟩, ⟨⟨#[108, 111, 103, 46, 100, 105, 114]⟩, ⟨#[97, 32, 98, 32]⟩, 6⟩]) := Lib.hid fun W hb => parse_to _ _ _ _ pb1 W (HT.out W hb).1 (HT.out W hb).2 (by decide)
  have H2 : Hid (∀ W, Below w.heap.size w W → Calls Tryd.prog 16 #[.string ⟨#[97, 32, 61, 32, 49, 10, 112, 111, 114, 116]⟩] W fun e w' => ∃ x c, e = .returned (.tuple #[.slice x 0 c, .int .i64 60, .int .i64 2]) ∧ Below W.heap.size W w' ∧ Lns w' x []) := Lib.hid fun W hb => parse_to _ _ _ _ pb2 W (HT.out W hb).1 (HT.out W hb).2 (by decide)
  have H3 : Hid (∀ W t, Below w.heap.size w W → Calls Tryd.prog 14 #[.slice (some ⟨W.heap.size, 0, none⟩) 3 3] (W.alloc (Obj.cells #[.string ⟨#[97]⟩, .string ⟨#[120]⟩, .int .i64 0, .string ⟨#[98, 46, 99]⟩, .string ⟨#[]⟩, .int .i64 0, .string ⟨#[100]⟩, .string ⟨#[32, 120]⟩, .int .i64 0] t)) fun e w' => e = .returned (.tuple #[.string ⟨#[97, 32, 61, 32, 120, 10, 98, 46, 99, 32, 61, 32, 34, 34, 10, 100, 32, 61, 32, 34, 32, 120, 34, 10]⟩, .int .i64 0]) ∧ Below W.heap.size W w') := Lib.hid fun W t hb => print_lit _ _ pf1 W t 3 (HT.out W hb).1 (by decide) (by intro l hl; simp only [List.mem_cons, List.not_mem_nil, or_false] at hl; rcases hl with rfl | rfl | rfl <;> decide) _ rfl
  have H4 : Hid (∀ W t, Below w.heap.size w W → Calls Tryd.prog 14 #[.slice (some ⟨W.heap.size, 0, none⟩) 2 2] (W.alloc (Obj.cells #[.string ⟨#[97]⟩, .string ⟨#[]⟩, .int .i64 0, .string ⟨#[97]⟩, .string ⟨#[]⟩, .int .i64 0] t)) fun e w' => e = .returned (.tuple #[.string ⟨#[]⟩, .int .i64 1]) ∧ Below W.heap.size W w') := Lib.hid fun W t hb => print_lit _ _ pf2 W t 2 (HT.out W hb).1 (by decide) (by intro l hl; simp only [List.mem_cons, List.not_mem_nil, or_false] at hl; rcases hl with rfl | rfl <;> decide) _ rfl
  clear hT hI
  go_enter Tryd.func9, Tryd.ntmps9
  go_wp2_with fail
  refine (H1.out _ (Below.refl _ _)).mono ?_
  rintro e w1 ⟨x1, c1, rfl, hb1, hl1⟩
  have HB1 := Lib.hid hb1
  have HL1 := Lib.hid hl1
  clear hb1 hl1
  go_wp2_with fail
  refine (H2.out _ HB1.out).mono ?_
  rintro e w2 ⟨x2, c2, rfl, hb2, _⟩
  have HB2 := Lib.hid (HB1.out.trans (hb2.mono HB1.out.size))
  have HL2 := Lib.hid (HL1.out.below hb2)
  clear hb2
  go_wp2_with fail
  refine (H3.out _ _ HB2.out).mono ?_
  rintro e w3 ⟨rfl, hb3⟩
  have HB3 := Lib.hid (HB2.out.trans (hb3.mono HB2.out.size))
  have HL3 := Lib.hid (HL2.out.below hb3)
  clear hb3
  go_wp2_with fail
  refine (H4.out _ _ HB3.out).mono ?_
  rintro e w4 ⟨rfl, hb4⟩
  have HB4 := Lib.hid (HB3.out.trans (hb4.mono HB3.out.size))
  have hL4 := HL3.out.below hb4
  obtain ⟨b, off, rfl, _, a0, a1, a2⟩ := hL4 0 (by decide)
  obtain ⟨b', off', ex, _, b0, b1, b2⟩ := hL4 1 (by decide)
  obtain ⟨rfl, rfl⟩ : b = b' ∧ off = off' := by simpa using ex
  have hq1 := leql_self ⟨⟨#[110, 101, 116, 46, 112, 111, 114, 116]⟩, ⟨#[57, 48, 48, 48]⟩, 2⟩
  have hq2 := leql_self ⟨⟨#[108, 111, 103, 46, 100, 105, 114]⟩, ⟨#[97, 32, 98, 32]⟩, 6⟩
  have hgd := leql_guard
  simp at a0 a1 a2 b0 b1 b2 hq1 hq2
  clear hb4 hL4 ex H1 H2 H3 H4
  go_wp2
  go_ret
  exact ⟨rfl, HB4.out⟩
end Go.Proofs.YtbpbiakdigjcnaaDoor
