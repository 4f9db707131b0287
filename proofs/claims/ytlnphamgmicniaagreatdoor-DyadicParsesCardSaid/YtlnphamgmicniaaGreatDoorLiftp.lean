/- From a walk of a law to its card, where it reads the table of powers of ten, too. -/
import Derived.Test.YtlnphamgmicniaaGreatDoorLift
import Derived.Test.YtlnphamgmicniaaGreatDoorMdtx
namespace Go.Proofs.YtlnphamgmicniaaGreatDoor
open Go.ChangeShapes Go.WideShapes Go.ChangeAt Go.RowKit

theorem laidMet_tail {P : Program} {W : World} {x : String × DataW Unit} {l : List (String × DataW Unit)} (h : laidMet P (x :: l) W) : laidMet P l W := by
  obtain ⟨ps, ⟨g, t, cs, fuel, p, q, _, _, _, _, hl, rfl⟩, hn, hc⟩ := h
  exact ⟨q, hl, (List.nodup_append.1 hn).2.1, fun b off hm => hc b off (List.mem_append_right _ hm)⟩
set_option maxRecDepth 100000 in
theorem tabp_of {W : World} (h : laidMetH Tryz.prog lst W) : TabP W := by
  have h' : laidMet Tryz.prog lst W := h
  exact Lib.tabIs_of_head (g := 4) (t := 162) (e := 100) (n := 20) (rest := lst.tail.tail.tail)
      (by kernel_rfl) (by kernel_rfl) Tryz.underlying162 Tryz.underlying100 (by kernel_rfl) (by kernel_rfl) (laidMet_tail (laidMet_tail h'))

/-- What a walk of a law is asked that reads both tables. -/
def WalkedP (k : FuncId) (fn : Func) : Prop :=
  ∀ (H : Type) (enc : TypeId × Value → H) (W : World) (base : Nat) (args : Array Value) (ds : List (DataW H)) (p : List MemPlace), Tabs W → TabP W →
    (∀ (j : Nat) t v, fn.params[j]? = some t → args[j]? = some v → Value.okWide Tryz.prog W .any base t v) →
    DataW.TrodAll enc Tryz.prog W 0 (fun _ => true) true fn.params.toList args.toList ds p →
    Calls Tryz.prog k args W fun e W' => e = .returned (.bool true) ∧ Below W.heap.size W W'

set_option maxRecDepth 100000 in
theorem law_liftedP {os : Os} (started : os.Started) {H : Type} {enc : TypeId × Value → H} {k : FuncId} {fn : Func} {s : ChangeSpec} (hf : Tryz.prog.funcs[k]? = some fn) (noInit : Tryz.prog.inits.idxOf? k = none)
    (hres : fn.resultTypes = #[4]) (hvars : s.vars = []) (hty : tysOk Tryz.prog fn.params.toList = true)
    (hspec : ∀ ds : List (DataW H), ds.length = fn.params.size → (s.fn H ds).results = [.lit (.bool true)] ∧ (s.fn H ds).args = ds ∧ (s.fn H ds).vars = [])
    (args : Array Value)
    (hok : Input.okWideB Tryz.prog ((World.laidAll Tryz.prog os lst).forCall (fun _ _ => 0) ⟨#[], args, []⟩) k ⟨#[], args, []⟩ = true)
    (hpre : s.preB enc Tryz.prog fn [] false ((World.laidAll Tryz.prog os lst).forCall (fun _ _ => 0) ⟨#[], args, []⟩).memory args 8 = true)
    (hsz : s.sizedB enc Tryz.prog fn false ((World.laidAll Tryz.prog os lst).forCall (fun _ _ => 0) ⟨#[], args, []⟩).memory args 8 = true)
    (walk : WalkedP k fn) :
    ReturnsInHanded {} Tryz.checked os k .any (fun w args => (s.pre enc Tryz.prog fn [] false w args ∧ laidMetH Tryz.prog lst w) ∧ sizedMet enc Tryz.prog fn (OpenSpec.ofChange s) false w args) (s.post enc Tryz.prog fn false true false false) := by
  refine returnsInHanded_of_change_and (C := Tryz.checked) (X := fun w _ => laidMetH Tryz.prog lst w) (fun _ _ _ hh h => h.of_heap hh) own started noInit hf
    (ChangeSpec.witness_shaped (enc := enc) (C := Tryz.checked) (os := os) (X := fun w _ => laidMetH Tryz.prog lst w) false (World.laidAll Tryz.prog os lst) args 8 (World.laidAll_os _ _ _) (door_shaped os args) hok hpre hsz (door_met os _)) ?_
  intro W base args ds gs before hval hW _ _ hL _
  have hW' := hW
  obtain ⟨p, q, hA, hV, rfl, hz, hn⟩ := hW
  refine (walk H enc W base args ds p (tabs_of hL) (tabp_of hL) hval hA).mono fun e W' ⟨he, hb⟩ => ?_
  subst he
  have hlen : ds.length = fn.params.size := by rw [trodAll_len hA]; simp
  obtain ⟨h1, h2, h3⟩ := hspec ds hlen
  exact ⟨_, rfl, law_post laidOut resBool hres hvars hty hW' h1 h2 h3 hb⟩

end Go.Proofs.YtlnphamgmicniaaGreatDoor
