/-
  Scripts that came in: what their cells hold; the walk of 'size'.
-/
import Derived.Test.YtcfnkphdmkepaaaDoorCodecAwake
namespace Go.Proofs.YtcfnkphdmkepaaaDoor
open Go.ChangeShapes Go.WideShapes Go.ChangeAt Go.RowKit

/-- One call of a script. -/
structure OpV where
  kind : Int
  on : Int
  n : Int
  s : ByteArray
def OpV.ok (o : OpV) : Prop := (-9223372036854775808 ≤ o.on ∧ o.on ≤ 9223372036854775807) ∧ (-9223372036854775808 ≤ o.n ∧ o.n ≤ 9223372036854775807) ∧ o.s.size ≤ 9223372036854775807
/-- Where a script's cells lie. -/
def OpAt (w : World) (b off k : Nat) (o : OpV) : Prop :=
  w.cell? ⟨b, off + k * 4, none⟩ = some (.int .i64 o.kind) ∧ w.cell? ⟨b, off + k * 4 + 1, none⟩ = some (.int .i64 o.on) ∧ w.cell? ⟨b, off + k * 4 + 2, none⟩ = some (.int .i64 o.n) ∧ w.cell? ⟨b, off + k * 4 + 3, none⟩ = some (.string o.s)
def Script (w : World) (x : Option Addr) (os : List OpV) : Prop :=
  os.length ≤ 9223372036854775807 ∧ ∀ k (h : k < os.length), os[k].ok ∧ ∃ b off, x = some ⟨b, off, none⟩ ∧ b < w.heap.size ∧ OpAt w b off k os[k]
theorem OpAt.kept {w w' : World} {b off k : Nat} {o : OpV} (h : OpAt w b off k o) (hb : w'.heap[b]? = w.heap[b]?) : OpAt w' b off k o := by
  have hc : ∀ j, w'.cell? ⟨b, j, none⟩ = w.cell? ⟨b, j, none⟩ := fun j => World.cell?_of_block (w := w) (a := ⟨b, j, none⟩) hb
  unfold OpAt at h ⊢
  rw [hc, hc, hc, hc]; exact h

def total : List OpV → Nat
  | [] => 0
  | o :: r => 100 + o.s.size + total r
theorem total_append (a b : List OpV) : total (a ++ b) = total a + total b := by
  induction a with
  | nil => simp [total]
  | cons o r ih => simp only [List.cons_append, total, ih]; omega
theorem total_take (l : List OpV) (k : Nat) : total (l.take k) ≤ total l := by
  have := total_append (l.take k) (l.drop k)
  rw [List.take_append_drop] at this; omega
theorem total_succ {l : List OpV} {k : Nat} (h : k < l.length) : total (l.take (k + 1)) = total (l.take k) + 100 + l[k].s.size := by
  rw [List.take_succ_eq_append_getElem h, total_append]
  simp only [total]; omega
theorem total_len (l : List OpV) : 100 * l.length ≤ total l := by
  induction l with
  | nil => simp
  | cons o r ih => simp only [List.length_cons, total]; omega
def sat (t : Nat) : Int := if (t : Int) ≤ 2147483647 then t else 2147483648
theorem sat_small {t : Nat} (h : (t : Int) ≤ 2147483647) : sat t = t := if_pos h
theorem sat_great {t : Nat} (h : ¬ (t : Int) ≤ 2147483647) : sat t = 2147483648 := if_neg h
theorem sat_bd (t : Nat) : 0 ≤ sat t ∧ sat t ≤ 2147483648 := by unfold sat; split <;> omega
theorem add_sat (t n : Nat) : addV (t : Int) n = sat (t + n) := by
  unfold addV sat; repeat' split
  all_goals omega
theorem add100 (t : Nat) : addV (t : Int) 100 = sat (t + 100) := add_sat t 100
theorem add_sat2 (t n m : Nat) : addV (sat (t + n)) m = sat (t + n + m) := by
  unfold addV sat; repeat' split
  all_goals omega

theorem drawn {w wr : World} (h : ∃ m, wr = w.drewN m) (n : Nat) : ∃ m, wr.drewN n = w.drewN m := by
  obtain ⟨m, rfl⟩ := h
  exact ⟨m + n, by simp [World.drewN, Nat.add_assoc]⟩
theorem quietW {P : Program} {f : FuncId} {args : Array Value} {w : World} {n : Nat} {v : Value}
    (h : Calls P f args (w.drewN n) fun e w' => e = .returned v ∧ w.drewN n = w') : Calls P f args (w.drewN n) fun e w'' => e = .returned v ∧ ∃ m, w'' = w.drewN m :=
  h.mono fun _ _ ⟨a, b⟩ => ⟨a, n, b.symm⟩

set_option maxRecDepth 100000 in
set_option maxHeartbeats 800000 in
theorem size_any (w : World) (x : Option Addr) (cap : Nat) (os : List OpV) (hS : Script w x os) :
    Calls Tryd.prog 6 #[.slice x os.length cap] w fun e w' => e = .returned (.int .i64 (sat (total os))) ∧ ∃ m, w' = w.drewN m := by
  obtain ⟨hlen, hops⟩ := hS
  have HO := Lib.hid hops
  clear hops
  go_enter Tryd.func6, Tryd.ntmps6
  go_wp2
  go_loopw [3, 4, 5, 6, 7, 8, 9, 10, 11, 12, 13, 14, 15, 16, 17, 18, 19, 20, 21, 22, 23] (fun n i _ _ _ _ _ _ _ _ _ _ _ _ _ _ _ _ _ _ _ wr => ∃ k : Nat, k ≤ os.length ∧ i = .int .i64 k ∧ ∃ t : Nat, n = .int .i64 (sat t) ∧ Hid (t = total (os.take k)) ∧ Hid (∃ m, wr = w.drewN m)) (fun _ i _ _ _ _ _ _ _ _ _ _ _ _ _ _ _ _ _ _ _ _ => os.length - (intOf i).toNat)
  case atStart => exact ⟨0, by omega, rfl, 0, rfl, Lib.hid (by simp [total]), Lib.hid ⟨0, rfl⟩⟩
  case round =>
    obtain ⟨k, hk, rfl, t, rfl, HT, HM⟩ := hrel
    by_cases hlt : k < os.length
    · by_cases hb : (t : Int) ≤ 2147483647
      · have hsm := sat_small hb
        obtain ⟨⟨_, _, hsz⟩, b, off, hx, _, c0, c1, c2, c3⟩ := HO.out k hlt
        have HTS := Lib.hid (total_succ hlt)
        generalize os[k] = o at hsz c0 c1 c2 c3 HTS
        subst hx
        have c3' : wr.cell? ⟨b, off + k * 4 + 3, none⟩ = some (.string o.s) := by
          obtain ⟨m, rfl⟩ := HM.out
          exact c3
        clear c0 c1 c2 c3
        rw [hsm]
        have q1 : (0 : Int) ≤ k := by omega
        have q2 : (k : Int) < os.length := by omega
        have hA := add100 t
        have HA := Lib.hid hA
        have HB := Lib.hid (add_sat2 t 100 o.s.size)
        obtain ⟨s1, s2⟩ := sat_bd (t + 100)
        rw [← hA] at s1 s2
        have s3 : addV (t : Int) 100 ≤ 9223372036854775807 := Int.le_trans s2 (by decide)
        clear hsm hA
        go_wp2
        go_quiet ((go_at_call 13; exact quietW (add_any _ _ _ (by first | assumption | omega) (by first | assumption | omega) (by omega))))
        go_wp2
        go_roundw
        case rel => exact ⟨k + 1, by omega, by go_num, t + 100 + o.s.size, by rw [← HB.out, ← HA.out], Lib.hid (by rw [HTS.out, HT.out]), Lib.hid (drawn HM.out _)⟩
        case measure => simp [intOf]; omega
      · have hgr := sat_great hb
        have HE : Hid (sat t = sat (total os)) := Lib.hid (by
          have h1 := total_take os k
          have h2 := HT.out
          rw [sat_great hb, sat_great (t := total os) (by omega)])
        clear hgr
        have hd : decide (sat t ≤ 2147483647) = false := decide_eq_false (by rw [sat_great hb]; decide)
        have q2 : (k : Int) < os.length := by omega
        go_wp2
        go_ret
        exact ⟨ret_int HE.out, HM.out⟩
    · have HE : Hid (sat t = sat (total os)) := Lib.hid (by rw [HT.out, List.take_of_length_le (by omega)])
      have q2 : decide ((k : Int) < os.length) = false := decide_eq_false (by omega)
      go_wp2
      go_ret
      exact ⟨ret_int HE.out, HM.out⟩
end Go.Proofs.YtcfnkphdmkepaaaDoor
