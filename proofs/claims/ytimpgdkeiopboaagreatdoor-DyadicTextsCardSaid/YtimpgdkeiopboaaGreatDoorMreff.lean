/- The reference's number. -/
import Derived.Test.YtimpgdkeiopboaaGreatDoorMref
import Derived.Test.YtimpgdkeiopboaaGreatDoorMdyf
namespace Go.Proofs.YtimpgdkeiopboaaGreatDoor

/-! ### Reff -/
section
open Go.RowKit

theorem news_rd {w : World} {ad : Addr} {n : Nat} {f : Nat → Nat} (hr : Rd w (some ad) n f) (t : TypeId) : ∀ j u, (wl f n)[j]? = some u → (w.alloc (.cells #[] t)).cell? (ad.add j) = some u := by
  intro j u hj
  by_cases hjn : j < n
  · obtain ⟨b, o, e, hb, hc⟩ := hr (by omega)
    injection e with e
    subst e
    rw [wl_get _ hjn] at hj
    injection hj with hj
    subst hj
    rw [World.cell?_alloc_lt _ _ _ (by unfold Addr.add; split <;> exact hb)]
    have := hc j hjn
    unfold Addr.add; split
    · rename_i h0; subst h0; exact this
    · exact this
  · rw [List.getElem?_eq_none (by rw [wl_len]; omega)] at hj; cases hj
theorem slice_of_owns {w : World} {b n : Nat} {v : Value} {l : List Value} (h : w.ownsRow b 54 1 v n l) : ∃ A' c', v = .slice A' n c' := by
  rcases h.2 with ⟨rfl, hz⟩ | ⟨g, cap, cur, rfl, _⟩
  · exact ⟨none, 0, by rw [hz]⟩
  · exact ⟨_, _, rfl⟩
theorem on_some {w : World} {b n c : Nat} {A : Option Addr} {f : Nat → Nat} (h : On w b A n c f) (h0 : n ≠ 0) : ∃ g, A = some ⟨g, 0, none⟩ := by
  rcases h.cases with ⟨_, e, _⟩ | ⟨g, rfl, _⟩
  · exact absurd e h0
  · exact ⟨g, rfl⟩
theorem rd_val {w : World} {A : Option Addr} {n m : Nat} {f : Nat → Nat} (h : Rd w A n f) (hb : ∀ i, i < n → f i < 4294967296) (hv : valN f n = m) : Rd w A (len m) (dg m) := fun h0 => by
  subst hv
  have hl := len_le (valN_lt hb)
  obtain ⟨b, o, rfl, hbw, hc⟩ := h (by omega)
  exact ⟨b, o, rfl, hbw, fun i hi => by rw [hc i (by omega), dg_valN hb (by omega)]⟩

end

/-! ### Refg -/
section
open Go.RowKit

end

end Go.Proofs.YtimpgdkeiopboaaGreatDoor
