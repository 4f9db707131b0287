/- From a walk of a law to its card, where it reads the table of the operations, too. -/
import Derived.Test.YtkocmdpfknoiaaaGreatDoorLift
import Derived.Test.YtkocmdpfknoiaaaGreatDoorKxf
namespace Go.Proofs.YtkocmdpfknoiaaaGreatDoor
open Go.ChangeShapes Go.WideShapes Go.ChangeAt Go.RowKit

theorem laidMet_tl {P : Program} {W : World} {x : String × DataW Unit} {l : List (String × DataW Unit)} (h : laidMet P (x :: l) W) : laidMet P l W := by
  obtain ⟨ps, ⟨g, t, cs, fuel, p, q, _, _, _, _, hl, rfl⟩, hn, hc⟩ := h
  exact ⟨q, hl, (List.nodup_append.1 hn).2.1, fun b off hm => hc b off (List.mem_append_right _ hm)⟩
set_option maxRecDepth 100000 in
theorem tabo_of {W : World} (h : laidMetH Tryz.prog lst W) : TabO W := by
  have h' : laidMet Tryz.prog lst W := h
  have ht : Lib.TabIs Tryz.prog W "commutator/compile.operations" .i64 [0, 1, 2, 3, 4, 5, 6, 7, 8, 9, 10, 9] :=
    Lib.tabIs_of_head (g := 0) (t := 166) (e := 3) (n := 12) (rest := lst.tail.tail)
      (by kernel_rfl) (by kernel_rfl) Tryz.underlying166 Tryz.underlying3 (by kernel_rfl) (by kernel_rfl) (laidMet_tl h')
  intro j hj
  have := ht.cell (g := 0) (by kernel_rfl) j (by simpa using hj)
  rw [this]
  rcases (show j = 0 ∨ j = 1 ∨ j = 2 ∨ j = 3 ∨ j = 4 ∨ j = 5 ∨ j = 6 ∨ j = 7 ∨ j = 8 ∨ j = 9 ∨ j = 10 ∨ j = 11 by omega) with h | h | h | h | h | h | h | h | h | h | h | h <;> subst h <;> rfl

/-- What a walk of a law is asked that reads both tables. -/
def WalkedO (k : FuncId) (fn : Func) : Prop :=
  ∀ (H : Type) (enc : TypeId × Value → H) (W : World) (base : Nat) (args : Array Value) (ds : List (DataW H)) (p : List MemPlace), Tabs W → TabO W →
    (∀ (j : Nat) t v, fn.params[j]? = some t → args[j]? = some v → Value.okWide Tryz.prog W .any base t v) →
    DataW.TrodAll enc Tryz.prog W 0 (fun _ => true) true fn.params.toList args.toList ds p →
    Calls Tryz.prog k args W fun e W' => e = .returned (.bool true) ∧ Below W.heap.size W W'

set_option maxRecDepth 100000 in
theorem law_liftedO {os : Os} (started : os.Started) {H : Type} {enc : TypeId × Value → H} {k : FuncId} {fn : Func} {s : ChangeSpec} (hf : Tryz.prog.funcs[k]? = some fn) (noInit : Tryz.prog.inits.idxOf? k = none)
    (hres : fn.resultTypes = #[4]) (hvars : s.vars = []) (hty : tysOk Tryz.prog fn.params.toList = true)
    (hspec : ∀ ds : List (DataW H), ds.length = fn.params.size → (s.fn H ds).results = [.lit (.bool true)] ∧ (s.fn H ds).args = ds ∧ (s.fn H ds).vars = [])
    (args : Array Value)
    (hok : Input.okWideB Tryz.prog ((World.doorLaid Tryz.prog 24 os).forCall (fun _ _ => 0) ⟨#[], args, []⟩) k ⟨#[], args, []⟩ = true)
    (hpre : s.preB enc Tryz.prog fn [] false ((World.doorLaid Tryz.prog 24 os).forCall (fun _ _ => 0) ⟨#[], args, []⟩).memory args 8 = true)
    (hsz : s.sizedB enc Tryz.prog fn false ((World.doorLaid Tryz.prog 24 os).forCall (fun _ _ => 0) ⟨#[], args, []⟩).memory args 8 = true)
    (walk : WalkedO k fn) :
    ReturnsInHanded {} Tryz.checked os k .any (fun w args => (s.pre enc Tryz.prog fn [] false w args ∧ laidMetH Tryz.prog lst w) ∧ sizedMet enc Tryz.prog fn (OpenSpec.ofChange s) false w args) (s.post enc Tryz.prog fn false true false false) := by
  refine returnsInHanded_of_change_and (C := Tryz.checked) (X := fun w _ => laidMetH Tryz.prog lst w) (fun _ _ _ hh h => h.of_heap hh) own started noInit hf
    (ChangeSpec.witness_shaped (enc := enc) (C := Tryz.checked) (os := os) (X := fun w _ => laidMetH Tryz.prog lst w) false (World.doorLaid Tryz.prog 24 os) args 8 rfl (door_shaped os args) hok hpre hsz (door_met os _)) ?_
  intro W base args ds gs before hval hW _ _ hL _
  have hW' := hW
  obtain ⟨p, q, hA, hV, rfl, hz, hn⟩ := hW
  refine (walk H enc W base args ds p (tabs_of hL) (tabo_of hL) hval hA).mono fun e W' ⟨he, hb⟩ => ?_
  subst he
  have hlen : ds.length = fn.params.size := by rw [trodAll_len hA]; simp
  obtain ⟨h1, h2, h3⟩ := hspec ds hlen
  exact ⟨_, rfl, law_post laidOut resBool hres hvars hty hW' h1 h2 h3 hb⟩

end Go.Proofs.YtkocmdpfknoiaaaGreatDoor
