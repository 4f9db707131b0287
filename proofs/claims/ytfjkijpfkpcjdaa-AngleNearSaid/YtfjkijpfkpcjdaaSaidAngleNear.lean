/- The given statements: AngleNear. No conditions. -/
import Derived.Test.YtfjkijpfkpcjdaaSlicei
import Derived.Test.YtfjkijpfkpcjdaaAngi
namespace Go.Proofs.Ytfjkijpfkpcjdaa
open Go.ChangeShapes Go.WideShapes Go.ChangeAt Go.RowKit

theorem i16w {n : Int} (h : (Lit.int .i16 n).wf = true) : -32768 ≤ n ∧ n ≤ 32767 := by simp [Lit.wf, IntKind.min, IntKind.max, IntKind.signed, IntKind.bits] at h; omega

theorem angleNear_walked : Walked 12 Try.f12 := by
  intro H enc W base args ds p hval hA
  rw [Try.params12] at hA hval
  obtain ⟨v0, v1, d0, d1, p0, p1, hargs, rfl, rfl, h0, h1⟩ := trodAll_two hA
  obtain rfl : args = #[v0, v1] := by cases args; simp_all
  obtain ⟨a0, rfl, rfl, rfl, wa0⟩ := open_int Try.underlying3 (hval 0 3 v0 rfl rfl) h0
  obtain ⟨a, L, cap, rfl⟩ := okWide_slice Try.underlying48 (hval 1 48 v1 rfl rfl)
  obtain ⟨fuel, h1⟩ := h1
  obtain ⟨a', L', cap', e1, hl, hm, hf⟩ := int_slice (t := 48) Try.underlying48 Try.underlying49 (by kernel_rfl) h1
  have e2 : [Value.slice a L cap] = [Value.slice a' L' cap'] := by simpa [Value.cells] using e1
  simp only [List.cons.injEq, and_true, Value.slice.injEq] at e2
  obtain ⟨rfl, rfl, rfl⟩ := e2
  by_cases hL : 1000 < L
  · exact near_long a0 a L cap W hL (by omega)
  · by_cases h0 : 1 ≤ L
    · obtain ⟨b, off, f, rfl, hb, hc, hw⟩ := hf h0
      exact near_any a0 _ f L cap W (by omega) (fun k hk => ⟨b, off, rfl, hb, hc k hk⟩) (fun k hk => i16w (hw k hk))
    · exact near_any a0 a (fun _ => 0) L cap W (by omega) (fun k hk => by omega) (fun k hk => by omega)

set_option maxRecDepth 100000 in
theorem angleNear_holds : Rows.AngleNearSaid :=
  OpenClaim.holds_of_wide 12 Try.f12 rfl rfl rfl rfl rfl rfl rfl ⟨rfl, rfl, rfl, rfl, rfl⟩ rfl rfl rfl rfl rfl (by kernel_rfl) Try.func12 (by kernel_rfl)
    (of_decide_eq_true (by kernel_rfl)) (by unfold Func.isWrapper; first | (rw [if_pos (by decide +kernel)]; kernel_rfl) | (rw [if_neg (by decide +kernel)]; exact ⟨rfl, rfl⟩))
    (fun os started H enc _ => law_lifted (s := Rows.angleNearSpec) started Try.func12 (by kernel_rfl) (by kernel_rfl) rfl (by kernel_rfl)
      (fun ds hl => by
        have hl' : ds.length = 2 := hl
        match ds, hl' with
        | [d0, d1], _ => exact ⟨rfl, rfl, rfl⟩)
      (ChangeSpec.witness6 (enc := enc) (C := Try.checked) false ⟨#[], #[I 0, .slice none 0 0], []⟩ 8 (by kernel_rfl) (by kernel_rfl) (by kernel_rfl) (by kernel_rfl)) angleNear_walked)

end Go.Proofs.Ytfjkijpfkpcjdaa
