/- New blocks: their cells. -/
import Derived.Test.YtommlhdiefoocaaKdg
namespace Go.Proofs.Ytommlhdiefoocaa
open Go Go.RowKit
theorem new_cell (w : World) (cs : Array Value) (t : TypeId) {g j : Nat} {v : Value} (hg : g = w.heap.size) (h : cs[j]? = some v) : (w.alloc (.cells cs t)).cell? ⟨g, j, none⟩ = some v := by
  subst hg
  have hj : j < cs.size := (Array.getElem?_eq_some_iff.1 h).1
  have := (World.rowIs_alloc w cs t (fun i => cs.getD i (I 0)) (fun i hi => by simp [Array.getD, hi])).cell hj
  rw [this]; congr 1; simp [Array.getD_eq_getD_getElem?, h]
theorem ri_new {w : World} {cs : Array Value} {t : TypeId} {g n : Nat} {f : Nat → Int} (hg : g = w.heap.size) (h : ∀ i, i < n → cs[i]? = some (I (f i))) : Ri (w.alloc (.cells cs t)) (some ⟨g, 0, none⟩) n f := fun _ =>
  ⟨g, 0, rfl, by rw [hg]; simp, fun i hi => by rw [Nat.zero_add]; exact new_cell _ _ _ hg (h i hi)⟩
theorem rx_new {w : World} {cs : Array Value} {t : TypeId} {g n : Nat} {X : Nat → Ins} (hg : g = w.heap.size) (h : ∀ i, i < n → cs[i * 7]? = some (I (X i).op) ∧ cs[i * 7 + 1]? = some (I (X i).dst) ∧ cs[i * 7 + 2]? = some (I (X i).a) ∧ cs[i * 7 + 3]? = some (I (X i).b) ∧ cs[i * 7 + 4]? = some (I (X i).sa) ∧ cs[i * 7 + 5]? = some (I (X i).sb) ∧ cs[i * 7 + 6]? = some (I (X i).im)) : Rx (w.alloc (.cells cs t)) (some ⟨g, 0, none⟩) n X := fun _ =>
  ⟨g, 0, rfl, by rw [hg]; simp, fun i hi => by
    obtain ⟨h0, h1, h2, h3, h4, h5, h6⟩ := h i hi
    simp only [Nat.zero_add]
    exact ⟨new_cell _ _ _ hg h0, new_cell _ _ _ hg h1, new_cell _ _ _ hg h2, new_cell _ _ _ hg h3, new_cell _ _ _ hg h4, new_cell _ _ _ hg h5, new_cell _ _ _ hg h6⟩⟩
end Go.Proofs.Ytommlhdiefoocaa
