/-
  StoBehM.
-/
import Derived.Test.YtlommddabccdeaaGreatDoorQStoBehind
namespace Go.Proofs.YtlommddabccdeaaGreatDoor

theorem take_posB (l : List PairV) (t k : ByteArray) : l.take (posB l t k) = l.takeWhile fun q => aheadP q t k := by
 unfold posB
 induction l with
 | nil => rfl
 | cons q l ih =>
  rw [List.takeWhile_cons]
  cases aheadP q t k
  ·rfl
  ·simp [ih]
theorem drop_posB (l : List PairV) (t k : ByteArray) : l.drop (posB l t k) = l.dropWhile fun q => aheadP q t k := by
 unfold posB
 induction l with
 | nil => rfl
 | cons q l ih =>
  rw [List.takeWhile_cons, List.dropWhile_cons]
  cases aheadP q t k
  ·rfl
  ·simp [ih]
def restL (l : List PairV) (t k : ByteArray) : List PairV := match l.dropWhile fun q => aheadP q t k with
 | [] => []
 | q :: b => if isP t k q then b else q :: b
theorem behindL_eq (l : List PairV) (t k : ByteArray) (v : Option ByteArray) :
  behindL l t k v = (l.takeWhile fun q => aheadP q t k) ++ ((v.map fun x => (⟨t, k, x⟩ : PairV)).toList ++ restL l t k) := by
 unfold behindL restL
 rw [← List.drop_drop, take_posB, drop_posB]
 cases l.dropWhile fun q => aheadP q t k with
 | nil => simp
 | cons q b => cases h : isP t k q <;> simp [h]
theorem rest_more {l : List PairV} (hl : Rise l) (t k : ByteArray) (x0 : ByteArray) : ∀ x ∈ restL l t k, lessP ⟨t, k, x0⟩ x = true := by
 intro x hx
 have hs : (l.dropWhile fun q => aheadP q t k).Sublist l := List.dropWhile_sublist _
 have hr : Rise (l.dropWhile fun q => aheadP q t k) := List.Pairwise.sublist hs hl
 have hh : ∀ q b, (l.dropWhile fun q => aheadP q t k) = q :: b → aheadP q t k = false := by
  intro q b e
  have := List.head?_dropWhile_not (fun q => aheadP q t k) l
  rw [e] at this; simpa using this
 unfold restL at hx
 cases e : l.dropWhile fun q => aheadP q t k with
 | nil => rw [e] at hx; exact absurd hx (by simp)
 | cons q b =>
  rw [e] at hx hr
  have hq := hh q b e
  have hb : ∀ y ∈ b, lessP q y = true := (List.pairwise_cons.1 hr).1
  cases hi : isP t k q with
  | true =>
   replace hx : x ∈ (if isP t k q = true then b else q :: b) := hx
   rw [hi] at hx; simp only [if_true] at hx
   obtain ⟨h1, h2⟩ := isP_iff.1 hi
   rw [← lessP_key' (p := x) (q := q) (r := ⟨t, k, x0⟩) h1 h2]; exact hb x hx
  | false =>
   replace hx : x ∈ (if isP t k q = true then b else q :: b) := hx
   rw [hi] at hx; simp only [Bool.false_eq_true, if_false] at hx
   have hpq : lessP ⟨t, k, x0⟩ q = true := by
    cases hc : lessP ⟨t, k, x0⟩ q with
    | true => rfl
    | false =>
     have hq' : lessP q ⟨t, k, x0⟩ = false := by
      rw [← hq]; unfold aheadP; exact lessP_key rfl rfl
     obtain ⟨h1, h2⟩ := lessP_tri hc hq'
     rw [isP_iff.2 ⟨h1, h2⟩] at hi; exact absurd hi (by simp)
   rcases List.mem_cons.1 hx with rfl | hx
   ·exact hpq
   ·exact lessP_trans hpq (hb x hx)
theorem front_less {l : List PairV} {t k x0 : ByteArray} {x : PairV} (h : x ∈ l.takeWhile fun q => aheadP q t k) : lessP x ⟨t, k, x0⟩ = true := by
 have h2 := tw_less (p := ⟨t, k, emB⟩) (l := l) h
 rw [← h2]; exact lessP_key rfl rfl
theorem mem_rest {l : List PairV} (hl : Rise l) {t k : ByteArray} {x : PairV} : x ∈ restL l t k ↔ x ∈ (l.dropWhile fun q => aheadP q t k) ∧ isP t k x = false := by
 constructor
 ·intro h
  refine ⟨?_, ?_⟩
  ·unfold restL at h
   cases e : l.dropWhile fun q => aheadP q t k with
   | nil => rw [e] at h; exact h
   | cons q b =>
    rw [e] at h
    replace h : x ∈ (if isP t k q = true then b else q :: b) := h
    cases hi : isP t k q with
    | true => rw [hi] at h; exact List.mem_cons_of_mem _ h
    | false => rw [hi] at h; exact h
  ·cases hi : isP t k x with
   | false => rfl
   | true =>
    obtain ⟨h1, h2⟩ := isP_iff.1 hi
    have h3 := rest_more hl t k emB x h
    rw [lessP_key (p := ⟨t, k, emB⟩) (q := x) (r := ⟨t, k, emB⟩) h1 h2, lessP_irrefl] at h3
    exact absurd h3 (by simp)
 ·rintro ⟨h, hi⟩
  unfold restL
  cases e : l.dropWhile fun q => aheadP q t k with
  | nil => rw [e] at h; exact h
  | cons q b =>
   rw [e] at h
   cases hq : isP t k q with
   | false => simpa [hq] using h
   | true =>
    rcases List.mem_cons.1 h with rfl | h
    ·rw [hi] at hq; exact absurd hq (by simp)
    ·simpa [hq] using h
theorem mem_behind {l : List PairV} (hl : Rise l) {t k : ByteArray} {v : Option ByteArray} {x : PairV} :
  x ∈ behindL l t k v ↔ (x ∈ l ∧ isP t k x = false) ∨ (v = some x.value ∧ isP t k x = true) := by
 have hap : x ∈ l ↔ x ∈ (l.takeWhile fun q => aheadP q t k) ∨ x ∈ (l.dropWhile fun q => aheadP q t k) := by
  rw [← List.mem_append, List.takeWhile_append_dropWhile]
 have hf : x ∈ (l.takeWhile fun q => aheadP q t k) → isP t k x = false := by
  intro h
  cases hi : isP t k x with
  | false => rfl
  | true =>
   obtain ⟨h1, h2⟩ := isP_iff.1 hi
   have h3 := front_less (x0 := emB) h
   rw [lessP_key' (p := ⟨t, k, emB⟩) (q := x) (r := ⟨t, k, emB⟩) h1 h2, lessP_irrefl] at h3
   exact absurd h3 (by simp)
 have hv : x ∈ (v.map fun x => (⟨t, k, x⟩ : PairV)).toList ↔ v = some x.value ∧ isP t k x = true := by
  cases v with
  | none => simp
  | some y =>
   simp only [Option.map_some, Option.toList_some, List.mem_singleton, Option.some.injEq]
   constructor
   ·rintro rfl; exact ⟨rfl, isP_iff.2 ⟨rfl, rfl⟩⟩
   ·rintro ⟨rfl, hi⟩
    obtain ⟨h1, h2⟩ := isP_iff.1 hi
    cases x; simp_all
 rw [behindL_eq, List.mem_append, List.mem_append, mem_rest hl, hap, hv]
 constructor
 ·rintro (h | h | ⟨h, hi⟩)
  ·exact Or.inl ⟨Or.inl h, hf h⟩
  ·exact Or.inr h
  ·exact Or.inl ⟨Or.inr h, hi⟩
 ·rintro (⟨h | h, hi⟩ | h)
  ·exact Or.inl h
  ·exact Or.inr (Or.inr ⟨h, hi⟩)
  ·exact Or.inr (Or.inl h)
theorem rise_behind {l : List PairV} (hl : Rise l) (t k : ByteArray) (v : Option ByteArray) : Rise (behindL l t k v) := by
 rw [behindL_eq]
 have h1 : Rise (l.takeWhile fun q => aheadP q t k) := List.Pairwise.sublist (List.takeWhile_sublist _) hl
 have h2 : Rise (restL l t k) := by
  refine List.Pairwise.sublist ?_ hl
  refine List.Sublist.trans ?_ (List.dropWhile_sublist (fun q => aheadP q t k))
  unfold restL
  cases l.dropWhile fun q => aheadP q t k with
  | nil => exact List.Sublist.refl _
  | cons q b =>
   show (if isP t k q = true then b else q :: b).Sublist (q :: b)
   cases isP t k q with
   | true => exact List.sublist_cons_self _ _
   | false => exact List.Sublist.refl _
 have h3 : Rise ((v.map fun x => (⟨t, k, x⟩ : PairV)).toList ++ restL l t k) := by
  cases v with
  | none => simpa using h2
  | some y => exact List.pairwise_cons.2 ⟨rest_more hl t k y, h2⟩
 refine List.pairwise_append.2 ⟨h1, h3, ?_⟩
 intro x hx y hy
 rcases List.mem_append.1 hy with hy | hy
 ·cases v with
  | none => exact absurd hy (by simp)
  | some z =>
   have : y = ⟨t, k, z⟩ := by simpa using hy
   rw [this]; exact front_less hx
 ·exact lessP_trans (front_less (x0 := emB) hx) (rest_more hl t k emB y hy)
theorem ok_behind {l : List PairV} (hl : Rise l) {t k : ByteArray} {v : Option ByteArray} (ho : ∀ p ∈ l, okP p = true) (hv : ∀ x, v = some x → okP ⟨t, k, x⟩ = true) :
  ∀ p ∈ behindL l t k v, okP p = true := by
 intro p hp
 rcases (mem_behind hl).1 hp with ⟨h, _⟩ | ⟨h, hi⟩
 ·exact ho p h
 ·obtain ⟨h1, h2⟩ := isP_iff.1 hi
  have := hv _ h
  cases p; simp_all
def words60 : List (ByteArray × ByteArray) := (List.range 3).flatMap fun (a : Nat) => (List.range 20).map fun (b : Nat) => (wordOf2 116 (Int.ofNat a), wordOf2 107 (Int.ofNat b))
theorem words60_len : words60.length = 60 := by decide +kernel
theorem mem_words60 (x : TurnV) : (tabOf x, keyOf x) ∈ words60 := by
 obtain ⟨a0, a1⟩ := pickS_in (c := x.t) (n := 3) (by decide)
 obtain ⟨b0, b1⟩ := pickS_in (c := x.k) (n := 20) (by decide)
 refine List.mem_flatMap.2 ⟨(pickS x.t 3).toNat, List.mem_range.2 (by omega), List.mem_map.2 ⟨(pickS x.k 20).toNat, List.mem_range.2 (by omega), ?_⟩⟩
 unfold tabOf keyOf
 rw [show Int.ofNat (pickS x.t 3).toNat = pickS x.t 3 from Int.toNat_of_nonneg a0, show Int.ofNat (pickS x.k 20).toNat = pickS x.k 20 from Int.toNat_of_nonneg b0]
theorem words60_ok : ∀ u ∈ words60, wordB u.1.data.toList = true ∧ wordB u.2.data.toList = true := by
 have h : (words60.all fun u => wordB u.1.data.toList && wordB u.2.data.toList) = true := by decide +kernel
 intro u hu
 have := List.all_eq_true.1 h u hu
 simpa using this
theorem turn_ok (x : TurnV) {v : ByteArray} (hv : v.size ≤ 200) : okP ⟨tabOf x, keyOf x, v⟩ = true := by
 obtain ⟨h1, h2⟩ := words60_ok _ (mem_words60 x)
 unfold okP
 simp only at h1 h2 ⊢
 rw [h1, h2]; simpa using hv
def Of60 (l : List PairV) : Prop := ∀ p ∈ l, (p.table, p.key) ∈ words60
theorem of60_behind {l : List PairV} (hl : Rise l) (ho : Of60 l) (x : TurnV) (v : Option ByteArray) : Of60 (behindL l (tabOf x) (keyOf x) v) := fun p hp => by
 rcases (mem_behind hl).1 hp with ⟨h, _⟩ | ⟨_, hi⟩
 ·exact ho p h
 ·obtain ⟨h1, h2⟩ := isP_iff.1 hi
  rw [h1, h2]; exact mem_words60 x
theorem sub_len {α : Type} [DecidableEq α] : ∀ (l m : List α), l.Nodup → (∀ x ∈ l, x ∈ m) → l.length ≤ m.length
 | [], _, _, _ => Nat.zero_le _
 | a :: l, m, hn, hs => by
  obtain ⟨ha, hl⟩ := List.nodup_cons.1 hn
  have hm : a ∈ m := hs a List.mem_cons_self
  have := sub_len l (m.erase a) hl fun x hx => (List.mem_erase_of_ne (fun e => ha (by rw [← e]; exact hx))).2 (hs x (List.mem_cons_of_mem _ hx))
  rw [List.length_erase_of_mem hm] at this
  have := List.length_pos_of_mem hm
  simp only [List.length_cons]; omega
theorem of60_len {l : List PairV} (hl : Rise l) (ho : Of60 l) : l.length ≤ 60 := by
 have h : (l.map fun p => (p.table, p.key)).Nodup := by
  refine List.pairwise_map.2 (hl.imp ?_)
  intro p q hpq e
  have h1 : p.table = q.table := congrArg Prod.fst e
  have h2 : p.key = q.key := congrArg Prod.snd e
  rw [lessP_key' (p := q) h1 h2, lessP_irrefl] at hpq
  exact absurd hpq (by simp)
 have := sub_len _ words60 h (fun u hu => by obtain ⟨p, hp, rfl⟩ := List.mem_map.1 hu; exact ho p hp)
 rw [words60_len] at this
 simpa using this
end Go.Proofs.YtlommddabccdeaaGreatDoor
