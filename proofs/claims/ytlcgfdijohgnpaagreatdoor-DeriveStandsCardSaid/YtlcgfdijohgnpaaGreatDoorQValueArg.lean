/-
  ValueArg.
-/
import Derived.Test.YtlcgfdijohgnpaaGreatDoorQValueParse
import Derived.Test.YtlcgfdijohgnpaaGreatDoorQValueRight
namespace Go.Proofs.YtlcgfdijohgnpaaGreatDoor
open Go.ChangeShapes Go.WideShapes Go.ChangeAt Go.RowKit

theorem OwnT.arg {B : Nat} {w : World} {v : Val} {x : Option Addr} {cap : Nat} (h : OwnT B w x cap v.words) (hl : v.words.length ≤ 2147483647) (hs : ∀ k (h : k < v.words.length), v.words[k].size ≤ maxLen) (ht : v.text.size ≤ maxLen) : ArgOk w v x cap := by
 rcases h with ⟨rfl, hn, rfl⟩ | ⟨g, rfl, _, rfl, _, hg⟩
 ·exact ⟨by rw [hn]; exact Txts.nil_ _ _, by rw [hn]; exact Nat.le_refl _, by omega, hs, ht⟩
 ·refine ⟨fun k hk => ⟨g, 0, rfl, (Array.getElem?_eq_some_iff.1 hg).1, ?_⟩, Nat.le_refl _, by omega, hs, ht⟩
  rw [cell_of_row w g (0 + k) _ _ _ hg]; simp [hk]
theorem right_bounds {v : Val} (h : rightV v = true) : v.words.length ≤ 16 ∧ (∀ k (h : k < v.words.length), v.words[k].size ≤ 200) ∧ v.text.size ≤ 200 := by
 have hsz : ∀ b : ByteArray, b.data.toList = [] → b.size ≤ 200 := fun b hb => by
  have : b.data.toList.length = b.size := by simp
  rw [hb] at this; simp at this; omega
 have hnil : ∀ (n : Nat), n = 0 → v.words.length = n → v.words.length ≤ 16 ∧ ∀ k (h : k < v.words.length), v.words[k].size ≤ 200 := fun n h0 hn => ⟨by omega, fun k hk => absurd hk (by omega)⟩
 unfold rightV at h
 split at h
 ·simp only [Bool.and_eq_true, decide_eq_true_eq] at h
  exact ⟨(hnil 0 rfl h.2).1, (hnil 0 rfl h.2).2, hsz _ h.1.2⟩
 split at h
 ·simp only [Bool.and_eq_true, decide_eq_true_eq] at h
  exact ⟨(hnil 0 rfl h.2).1, (hnil 0 rfl h.2).2, hsz _ h.1.2⟩
 split at h
 ·simp only [Bool.and_eq_true, decide_eq_true_eq] at h
  exact ⟨(hnil 0 rfl h.2).1, (hnil 0 rfl h.2).2, hsz _ h.1.2⟩
 split at h
 ·simp only [Bool.and_eq_true, decide_eq_true_eq] at h
  refine ⟨(hnil 0 rfl h.2).1, (hnil 0 rfl h.2).2, ?_⟩
  have ht := h.1.2
  unfold textV at ht
  split at ht
  ·cases ht
  ·split at ht
   ·cases ht
   ·have : v.text.data.toList.length = v.text.size := by simp
    omega
 split at h
 ·simp only [Bool.and_eq_true, decide_eq_true_eq] at h
  obtain ⟨⟨_, ht⟩, hw⟩ := h
  unfold wordsRight at hw
  simp only [Bool.and_eq_true, decide_eq_true_eq] at hw
  refine ⟨hw.1.1, fun k hk => ?_, hsz _ ht⟩
  have hm : v.words[k].data.toList ∈ wl v.words := List.mem_map.2 ⟨_, List.getElem_mem hk, rfl⟩
  have := List.all_eq_true.1 hw.1.2 _ hm
  unfold wordB at this
  simp only [Bool.and_eq_true, decide_eq_true_eq] at this
  have hl : v.words[k].data.toList.length = v.words[k].size := by simp
  omega
 ·cases h
end Go.Proofs.YtlcgfdijohgnpaaGreatDoor
