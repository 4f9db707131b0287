/- From a walk of a law to its card, where the row lists the table of sines. -/
import Derived.Test.YtecpkggnjajppaaDoorLifti
import Derived.Test.YtecpkggnjajppaaDoorSinb
import Derived.Test.YtecpkggnjajppaaDoorTie
import Derived.Test.YtecpkggnjajppaaDoorCards
import Derived.LaidMore
import Derived.Lib.LaidTab
import Derived.SevenTiedAt
namespace Go.Proofs.YtecpkggnjajppaaDoor
open Go.ChangeShapes Go.WideShapes Go.ChangeAt Go.RowKit

theorem u16w {n : Int} (h : (Lit.int .u16 n).wf = true) : 0 ≤ n ∧ n ≤ 65535 := by simp [Lit.wf, IntKind.min, IntKind.max, IntKind.signed, IntKind.bits] at h; omega
/-- The list that the rows bear. -/
abbrev lst : List (String × DataW Unit) := Rows.arctanAnglesRow.laid
theorem lst_is : lst = [("commutator/sine.table", Lib.tabData .i64 ((List.range 65).map fun (k : Nat) => T k))] := by kernel_rfl
set_option maxRecDepth 100000 in
theorem tabs_of {W : World} (h : laidMetH Tryd.prog lst W) : TabS W := by
  have h' : laidMet Tryd.prog lst W := h
  rw [lst_is] at h'
  have ht : Lib.TabIs Tryd.prog W "commutator/sine.table" .i64 ((List.range 65).map fun (k : Nat) => T k) :=
    Lib.tabIs_of_head (g := 0) (t := 53) (e := 3) (n := 65) (rest := [])
      (by kernel_rfl) (by kernel_rfl) Tryd.underlying53 Tryd.underlying3 (by kernel_rfl) (by kernel_rfl) h'
  unfold Lib.TabIs World.var? at ht
  rw [show Tryd.prog.globalNamed "commutator/sine.table" = some 0 by kernel_rfl, Option.bind_some] at ht
  split at ht
  · rename_i cs t fr hh
    rw [Option.some.injEq] at ht
    subst ht
    refine ⟨t, fr, ?_⟩
    rw [hh, List.map_map]
    rfl
  · cases ht

set_option maxRecDepth 100000 in
theorem door_met (os : Os) (args : Array Value) : laidMetH Tryd.prog lst ((World.doorLaid Tryd.prog 24 os).forCall (fun _ _ => 0) ⟨#[], args, []⟩).memory :=
  laidMetH_of_parts3 (fuel := 8) (laidMet_of_run' 8 (by kernel_rfl) (by kernel_rfl)) (by kernel_rfl) (by kernel_rfl)
set_option maxRecDepth 100000 in
theorem door_shaped (os : Os) (args : Array Value) : ((World.doorLaid Tryd.prog 24 os).forCall (fun _ _ => 0) ⟨#[], args, []⟩).Shaped Tryd.prog := World.shaped_of_RefB (by kernel_rfl) (by kernel_rfl)

/-- What a walk of a law is asked: called with arguments that can be read, the table lying as it does, it returns true, and all old memory stays. -/
def WalkedT (k : FuncId) (fn : Func) : Prop :=
  ∀ (H : Type) (enc : TypeId × Value → H) (W : World) (base : Nat) (args : Array Value) (ds : List (DataW H)) (p : List MemPlace), TabS W →
    (∀ (j : Nat) t v, fn.params[j]? = some t → args[j]? = some v → Value.okWide Tryd.prog W .any base t v) →
    DataW.TrodAll enc Tryd.prog W 0 (fun _ => true) true fn.params.toList args.toList ds p →
    Calls Tryd.prog k args W fun e W' => e = .returned (.bool true) ∧ Below W.heap.size W W'

theorem trodAll_len {H : Type} {enc : TypeId × Value → H} {W : World} : ∀ {ts : List TypeId} {vs : List Value} {ds : List (DataW H)} {ps : List MemPlace}, DataW.TrodAll enc Tryd.prog W 0 (fun _ => true) true ts vs ds ps → ds.length = ts.length := by
  intro ts
  induction ts with
  | nil => intro vs ds ps h; cases vs <;> cases ds <;> first | rfl | exact h.elim
  | cons t ts ih =>
    intro vs ds ps h
    cases vs with
    | nil => exact h.elim
    | cons v vs =>
      cases ds with
      | nil => exact h.elim
      | cons d ds =>
        obtain ⟨_, _, _, h2, _⟩ := h
        simp [ih h2]

set_option maxRecDepth 100000 in
theorem law_liftedT {os : Os} (started : os.Started) {H : Type} {enc : TypeId × Value → H} {k : FuncId} {fn : Func} {s : ChangeSpec} (hf : Tryd.prog.funcs[k]? = some fn) (noInit : Tryd.prog.inits.idxOf? k = none)
    (hres : fn.resultTypes = #[4]) (hvars : s.vars = []) (hty : tysOk Tryd.prog fn.params.toList = true)
    (hspec : ∀ ds : List (DataW H), ds.length = fn.params.size → (s.fn H ds).results = [.lit (.bool true)] ∧ (s.fn H ds).args = ds ∧ (s.fn H ds).vars = [])
    (args : Array Value)
    (hok : Input.okWideB Tryd.prog ((World.doorLaid Tryd.prog 24 os).forCall (fun _ _ => 0) ⟨#[], args, []⟩) k ⟨#[], args, []⟩ = true)
    (hpre : s.preB enc Tryd.prog fn [] false ((World.doorLaid Tryd.prog 24 os).forCall (fun _ _ => 0) ⟨#[], args, []⟩).memory args 8 = true)
    (hsz : s.sizedB enc Tryd.prog fn false ((World.doorLaid Tryd.prog 24 os).forCall (fun _ _ => 0) ⟨#[], args, []⟩).memory args 8 = true)
    (walk : WalkedT k fn) :
    ReturnsInHanded {} Tryd.checked os k .any (fun w args => (s.pre enc Tryd.prog fn [] false w args ∧ laidMetH Tryd.prog lst w) ∧ sizedMet enc Tryd.prog fn (OpenSpec.ofChange s) false w args) (s.post enc Tryd.prog fn false true false false) := by
  refine returnsInHanded_of_change_and (C := Tryd.checked) (X := fun w _ => laidMetH Tryd.prog lst w) (fun _ _ _ hh h => h.of_heap hh) own started noInit hf
    (ChangeSpec.witness_shaped (enc := enc) (C := Tryd.checked) (os := os) (X := fun w _ => laidMetH Tryd.prog lst w) false (World.doorLaid Tryd.prog 24 os) args 8 rfl (door_shaped os args) hok hpre hsz (door_met os _)) ?_
  intro W base args ds gs before hval hW _ _ hL _
  have hW' := hW
  obtain ⟨p, q, hA, hV, rfl, hz, hn⟩ := hW
  refine (walk H enc W base args ds p (tabs_of hL) hval hA).mono fun e W' ⟨he, hb⟩ => ?_
  subst he
  have hlen : ds.length = fn.params.size := by rw [trodAll_len hA]; simp
  obtain ⟨h1, h2, h3⟩ := hspec ds hlen
  exact ⟨_, rfl, law_post laidOut resBool hres hvars hty hW' h1 h2 h3 hb⟩

end Go.Proofs.YtecpkggnjajppaaDoor
