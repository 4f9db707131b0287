/- The step from a walk of a law to its row, once for all laws of this translation: a law returns true and leaves all that was there as it was. -/
import Derived.Test.YtkocmdpfknoiaaaGreatDoorRows
import Derived.WalkKit
import Derived.ProofKit
import Derived.OpenShut
import Derived.Test.YtkocmdpfknoiaaaGreatDoorMnat
import Derived.Test.YtkocmdpfknoiaaaGreatDoorMdz
import Derived.Test.YtkocmdpfknoiaaaGreatDoorTie
import Derived.Test.YtkocmdpfknoiaaaGreatDoorCards
import Derived.LaidMore
import Derived.Lib.LaidTab
import Derived.SevenTiedAt
import Derived.Lay
import Derived.MakeChecks
namespace Go.Proofs.YtkocmdpfknoiaaaGreatDoor

/-! ### Lift -/
section
open Go.ChangeShapes Go.WideShapes Go.ChangeAt Go.RowKit

theorem own : ownKnob Tryz.prog.godebug = none := by kernel_rfl
theorem laidOut : laidOutB Tryz.prog = true := by kernel_rfl
theorem resBool : Tryz.prog.underlying 4 = some .bool := Tryz.underlying4

section
variable {H : Type} {enc : TypeId × Value → H} {P : Program}

def tysOk (P : Program) (ts : List TypeId) : Bool := ts.all fun t => P.readableRec t && decide (t < P.types.size)

theorem trodAll_below (hl : laidOutB P = true) {W W' : World} (hb : Below W.heap.size W W') (sp : Nat → Bool) :
    ∀ {ts : List TypeId} {vs : List Value} {ds : List (DataW H)} {ps : List MemPlace}, tysOk P ts = true →
      (∀ p ∈ ps, sp p.block = true) →
      DataW.TrodAll enc P W 0 (fun _ => true) true ts vs ds ps → DataW.TrodAll enc P W' 0 sp true ts vs ds ps
  | [], [], [], _, _, _, h => h
  | [], [], _ :: _, _, _, _, h => h.elim
  | [], _ :: _, _, _, _, _, h => h.elim
  | _ :: _, [], _, _, _, _, h => h.elim
  | _ :: _, _ :: _, [], _, _, _, h => h.elim
  | t :: ts, v :: vs, d :: ds, ps, ht, hs, h => by
    have hlt := DataW.TrodAll.lt h
    obtain ⟨p, q, h1, h2, rfl⟩ := h
    simp only [tysOk, List.all_cons, Bool.and_eq_true, decide_eq_true_eq] at ht
    exact ⟨p, q, WideElems.Trod_stays hl ht.1.1 ht.1.2 h1 (fun x hx => hb.same (hlt x (List.mem_append_left _ hx))) (fun x hx => hs x (List.mem_append_left _ hx)),
      trodAll_below hl hb sp (by simpa [tysOk] using ht.2) (fun x hx => hs x (List.mem_append_right _ hx)) h2, rfl⟩

theorem law_post (hl : laidOutB P = true) {f : Func} {s : ChangeSpec} {bt : TypeId} (hbt : P.underlying bt = some .bool) (hres : f.resultTypes = #[bt]) (hvars : s.vars = []) {W W' : World} {args : Array Value} {ds gs : List (DataW H)} {before : List MemPlace}
    (hty : tysOk P f.params.toList = true)
    (hW : DataW.Whole enc P f.params.toList s.vars false W args.toList ds gs before)
    (hs1 : (s.fn H ds).results = [.lit (.bool true)]) (hs2 : (s.fn H ds).args = ds) (hs3 : (s.fn H ds).vars = [])
    (hb : Below W.heap.size W W') :
    s.post enc P f false true false false W args (.bool true) W' := by
  have hlt : ∀ p ∈ before, p.block < W.heap.size := fun p hp => hW.lt p hp
  have hW' := hW
  obtain ⟨p, q, hA, hV, rfl, hz, hn⟩ := hW
  rw [hvars] at hV
  obtain ⟨rfl, rfl⟩ := trodVars_none hV
  have hold : ∀ p' ∈ p ++ [], (fun b => decide (b < W.heap.size)) p'.block = true := fun p hp => by simpa using hlt p hp
  simp only [List.append_nil] at hold hW' hlt
  refine ⟨ds, [], p, [], p, [], hW', ?_, ?_, ?_, World.keptBut_mono (fun p' hp => ⟨hp, ?_⟩) (hb.frame (· ∈ p)), fun h => by cases h⟩
  · rw [List.append_nil, hs1, hres]
    exact trodAll_mk1 (shut_bool hbt true)
  · rw [List.append_nil, hs2]
    exact trodAll_below hl hb _ hty hold hA
  · rw [List.append_nil, hs3, hvars]
    rfl
  · simpa using hp
end

/-- What a walk of a law is asked: called with arguments that can be read, it returns true, and all old memory stays. -/
def Walked (k : FuncId) (fn : Func) : Prop :=
  ∀ (H : Type) (enc : TypeId × Value → H) (W : World) (base : Nat) (args : Array Value) (ds : List (DataW H)) (p : List MemPlace),
    (∀ (j : Nat) t v, fn.params[j]? = some t → args[j]? = some v → Value.okWide Tryz.prog W .any base t v) →
    DataW.TrodAll enc Tryz.prog W 0 (fun _ => true) true fn.params.toList args.toList ds p →
    Calls Tryz.prog k args W fun e W' => e = .returned (.bool true) ∧ Below W.heap.size W W'

set_option maxRecDepth 100000 in
theorem law_lifted {os : Os} (started : os.Started) {H : Type} {enc : TypeId × Value → H} {k : FuncId} {fn : Func} {s : ChangeSpec} (hf : Tryz.prog.funcs[k]? = some fn) (noInit : Tryz.prog.inits.idxOf? k = none)
    (hres : fn.resultTypes = #[4]) (hvars : s.vars = []) (hty : tysOk Tryz.prog fn.params.toList = true)
    (hspec : ∀ ds : List (DataW H), ds.length = fn.params.size → (s.fn H ds).results = [.lit (.bool true)] ∧ (s.fn H ds).args = ds ∧ (s.fn H ds).vars = [])
    (wit : ∃ (w : World) (tape : Tape) (i : Input), w.os = os ∧ (w.forCall tape i).Shaped Tryz.prog ∧ i.vars = [] ∧ Input.okWide Tryz.prog (w.forCall tape i) .any w.heap.size k i ∧
      s.pre6 enc Tryz.prog fn [] false (w.forCall tape i).memory i.args ∧ ({} : Assume).holds Tryz.prog (lone (Frame.enter Tryz.prog k i.args .normal) [] (w.forCall tape i)))
    (walk : Walked k fn) :
    ReturnsInHanded {} Tryz.checked os k .any (s.pre6 enc Tryz.prog fn [] false) (s.post enc Tryz.prog fn false true false false) := by
  refine returnsInHanded_of_change (C := Tryz.checked) own started noInit hf wit ?_
  intro W base args ds gs before hval hW _ _
  have hW' := hW
  obtain ⟨p, q, hA, hV, rfl, hz, hn⟩ := hW
  refine (walk H enc W base args ds p hval hA).mono fun e W' ⟨he, hb⟩ => ?_
  subst he
  have hlen : ds.length = fn.params.size := by
    have : ∀ {ts : List TypeId} {vs : List Value} {ds : List (DataW H)} {ps : List MemPlace}, DataW.TrodAll enc Tryz.prog W 0 (fun _ => true) true ts vs ds ps → ds.length = ts.length := by
      intro ts
      induction ts with
      | nil => intro vs ds ps h; cases vs <;> cases ds <;> first | rfl | exact h.elim
      | cons t ts ih =>
        intro vs ds ps h
        cases vs with
        | nil => exact h.elim
        | cons v vs =>
          cases ds with
          | nil => exact h.elim
          | cons d ds =>
            obtain ⟨_, _, _, h2, _⟩ := h
            simp [ih h2]
    rw [this hA]; simp
  obtain ⟨h1, h2, h3⟩ := hspec ds hlen
  exact ⟨_, rfl, law_post laidOut resBool hres hvars hty hW' h1 h2 h3 hb⟩

/-! ### Plain data: a value whose cells are all integers and bools -/
section
variable {P : Program}
def kindsAll (P : Program) (go : TypeId → Option (List (Option IntKind))) : List Field → Nat → Option (List (Option IntKind))
  | [], _ => some []
  | f :: fs, off =>
    match go f.type, kindsAll P go fs (off + P.cellsOf f.type) with
    | some ks, some rest => if f.offset = off ∧ ks.length = P.cellsOf f.type then some (ks ++ rest) else none
    | _, _ => none
def repK : Nat → List (Option IntKind) → List (Option IntKind)
  | 0, _ => []
  | n + 1, ks => ks ++ repK n ks
def kindsOf (P : Program) : Nat → TypeId → Option (List (Option IntKind))
  | 0, _ => none
  | n + 1, t =>
    match P.underlying t with
    | some (.int k) => some [some k]
    | some .bool => some [none]
    | some (.struct fs) =>
      match kindsAll P (kindsOf P n) fs.toList 0 with
      | some ks => if ks.length = P.cellsOf t then some ks else none
      | none => none
    | some (.array len e) =>
      match kindsOf P n e with
      | some ks => if ks.length = P.cellsOf e ∧ len * ks.length = P.cellsOf t then some (repK len ks) else none
      | none => none
    | _ => none
def Flat : List (Option IntKind) → List Value → Prop
  | [], [] => True
  | some k :: ks, c :: cs => (∃ n, c = .int k n ∧ (Lit.int k n).wf = true) ∧ Flat ks cs
  | none :: ks, c :: cs => (∃ b, c = .bool b) ∧ Flat ks cs
  | _, _ => False

theorem Flat.append : ∀ {ks ls : List (Option IntKind)} {cs ds : List Value}, Flat ks cs → Flat ls ds → Flat (ks ++ ls) (cs ++ ds)
  | [], _, [], _, _, h => h
  | [], _, _ :: _, _, h, _ => h.elim
  | some _ :: _, _, [], _, h, _ => h.elim
  | none :: _, _, [], _, h, _ => h.elim
  | some _ :: _, _, _ :: _, _, h, h' => ⟨h.1, Flat.append h.2 h'⟩
  | none :: _, _, _ :: _, _, h, h' => ⟨h.1, Flat.append h.2 h'⟩

theorem flat_all {go : TypeId → Option (List (Option IntKind))} {Q : TypeId → List Value → Prop}
    (hgo : ∀ t ks cs, go t = some ks → Q t cs → Flat ks cs) :
    ∀ (fs : List Field) (off : Nat) (ks : List (Option IntKind)) (cs : List Value), kindsAll P go fs off = some ks → cs.length = off + ks.length →
      (∀ f ∈ fs, Q f.type ((cs.drop f.offset).take (P.cellsOf f.type))) → Flat ks (cs.drop off)
  | [], off, ks, cs, h, hl, _ => by
    simp only [kindsAll, Option.some.injEq] at h
    subst h
    rw [List.drop_of_length_le (by simp at hl; omega)]
    trivial
  | f :: fs, off, ks, cs, h, hl, hq => by
    simp only [kindsAll] at h
    split at h
    · rename_i k1 rest h1 h2
      split at h
      · rename_i hc
        cases h
        obtain ⟨hoff, hlen⟩ := hc
        have a := hgo _ _ _ h1 (hq f (List.mem_cons_self ..))
        have b := flat_all hgo fs (off + P.cellsOf f.type) rest cs h2 (by simp at hl; omega) (fun g hg => hq g (List.mem_cons_of_mem _ hg))
        have e : cs.drop off = (cs.drop f.offset).take (P.cellsOf f.type) ++ cs.drop (off + P.cellsOf f.type) := by
          rw [hoff, ← List.drop_drop, List.take_append_drop]
        rw [e]
        exact a.append b
      · cases h
    · cases h

theorem flat_rep {ks : List (Option IntKind)} {cs : List Value} {c : Nat} : ∀ (j o : Nat), (∀ i, i < j → Flat ks ((cs.drop ((o + i) * c)).take c)) → cs.length = (o + j) * c → Flat (repK j ks) (cs.drop (o * c))
  | 0, o, _, hl => by
    rw [List.drop_of_length_le (by simp at hl; omega)]
    trivial
  | j + 1, o, h, hl => by
    have a := h 0 (by omega)
    have b := flat_rep j (o + 1) (fun i hi => by have := h (i + 1) (by omega); rwa [show o + (i + 1) = o + 1 + i by omega] at this) (by rw [hl]; congr 1; omega)
    have e : cs.drop (o * c) = (cs.drop ((o + 0) * c)).take c ++ cs.drop ((o + 1) * c) := by
      rw [Nat.add_zero, show (o + 1) * c = o * c + c by rw [Nat.add_mul, Nat.one_mul], ← List.drop_drop, List.take_append_drop]
    rw [e]
    exact a.append b

theorem flat_of_trod {H : Type} {enc : TypeId × Value → H} {w : World} {base : Nat} {spare : Nat → Bool} {held : Bool} :
    ∀ (n : Nat) {fuel : Nat} {t : TypeId} {ks : List (Option IntKind)} {cs : List Value} {x : DataW H × List MemPlace},
      kindsOf P n t = some ks → DataW.trod enc P w base spare held fuel t cs = some x → Flat ks cs
  | 0, _, _, _, _, _, h, _ => by cases h
  | n + 1, fuel, t, ks, cs, x, h, hd => by
    simp only [kindsOf] at h
    split at h
    · rename_i k hk
      cases h
      obtain ⟨m, rfl, _, hw⟩ := DataW.trod_int hk hd
      exact ⟨⟨m, rfl, hw⟩, trivial⟩
    · rename_i hk
      cases h
      obtain ⟨m, rfl, _⟩ := DataW.trod_bool hk hd
      exact ⟨⟨m, rfl⟩, trivial⟩
    · rename_i fs hk
      split at h
      · rename_i ks' hks
        split at h
        · rename_i hlen
          cases h
          obtain ⟨xs, m, _, rfl, hl, hlen', hf⟩ := DataW.trod_struct hk hd
          have := flat_all (P := P) (Q := fun t l => ∃ y, DataW.trod enc P w base spare held m t l = some y) (fun t ks l h1 ⟨y, h2⟩ => flat_of_trod n h1 h2) fs.toList 0 ks cs hks (by omega)
            (fun f hf' => by
              obtain ⟨i, hi, he⟩ := List.mem_iff_getElem.1 hf'
              have h0 : fs[i]? = some f := by rw [← Array.getElem?_toList, List.getElem?_eq_getElem hi, he]
              have hx : xs[i]? = some (xs[i]'(by simp at hi; omega)) := List.getElem?_eq_getElem _
              exact ⟨_, (hf i f h0).trans hx⟩)
          simpa using this
        · cases h
      · cases h
    · rename_i len e hk
      split at h
      · rename_i ks' hks
        split at h
        · rename_i hlen
          cases h
          obtain ⟨xs, m, _, rfl, hl, hlen', hf⟩ := DataW.trod_array hk hd
          have := flat_rep (cs := cs) (ks := ks') (c := P.cellsOf e) len 0 (fun i hi => by
              have hx : xs[i]? = some (xs[i]'(by omega)) := List.getElem?_eq_getElem _
              have := hf i hi
              rw [Nat.zero_add]
              exact flat_of_trod n hks (this.trans hx)) (by rw [hl, ← hlen.2, hlen.1]; simp)
          simpa using this
        · cases h
      · cases h
    · cases h

/-- An argument of plain data, by its cells. -/
theorem flat_arg {H : Type} {enc : TypeId × Value → H} {w : World} {base : Nat} {spare : Nat → Bool} {held : Bool} {t : TypeId} {v : Value} {d : DataW H} {p : List MemPlace} {ks : List (Option IntKind)}
    (n : Nat) (hk : kindsOf P n t = some ks) (h : DataW.Trod enc P w base spare held t v d p) : Flat ks v.cells.toList := by
  obtain ⟨fuel, hf⟩ := h
  exact flat_of_trod n hk hf

theorem flat_array {H : Type} {enc : TypeId × Value → H} {w w' : World} {base b0 : Nat} {r : Reach} {spare : Nat → Bool} {held : Bool} {t e : TypeId} {v : Value} {d : DataW H} {p : List MemPlace} {ks : List (Option IntKind)} {len : Nat}
    (n : Nat) (hs : P.underlying t = some (.array len e)) (hk : kindsOf P n t = some ks) (hv : Value.okWide P w' r b0 t v) (h : DataW.Trod enc P w base spare held t v d p) : ∃ l, v = .agg ⟨l⟩ ∧ Flat ks l := by
  simp only [Value.okWide, hs] at hv
  obtain ⟨cs, rfl, _⟩ := hv
  obtain ⟨l⟩ := cs
  exact ⟨l, rfl, by simpa [Value.cells] using flat_arg n hk h⟩

theorem flat_struct {H : Type} {enc : TypeId × Value → H} {w w' : World} {base b0 : Nat} {r : Reach} {spare : Nat → Bool} {held : Bool} {t : TypeId} {v : Value} {d : DataW H} {p : List MemPlace} {ks : List (Option IntKind)} {fs : Array Field}
    (n : Nat) (hs : P.underlying t = some (.struct fs)) (hk : kindsOf P n t = some ks) (hv : Value.okWide P w' r b0 t v) (h : DataW.Trod enc P w base spare held t v d p) : ∃ l, v = .agg ⟨l⟩ ∧ Flat ks l := by
  obtain ⟨cs, rfl, _⟩ := okWide_struct hs hv
  obtain ⟨l⟩ := cs
  exact ⟨l, rfl, by simpa [Value.cells] using flat_arg n hk h⟩
end

theorem flat_i {k : IntKind} {ks : List (Option IntKind)} {l : List Value} (h : Flat (some k :: ks) l) : ∃ (n : Int) (m : List Value), l = .int k n :: m ∧ (Lit.int k n).wf = true ∧ Flat ks m := by
  cases l with
  | nil => exact h.elim
  | cons c m => obtain ⟨⟨n, rfl, hw⟩, hm⟩ := h; exact ⟨n, m, rfl, hw, hm⟩
theorem flat_b {ks : List (Option IntKind)} {l : List Value} (h : Flat (none :: ks) l) : ∃ (b : Bool) (m : List Value), l = .bool b :: m ∧ Flat ks m := by
  cases l with
  | nil => exact h.elim
  | cons c m => obtain ⟨⟨n, rfl⟩, hm⟩ := h; exact ⟨n, m, rfl, hm⟩
theorem flat_nil {l : List Value} (h : Flat [] l) : l = [] := by
  cases l with
  | nil => rfl
  | cons c m => exact h.elim

theorem in64w {n : Int} (h : (Lit.int .i64 n).wf = true) : -9223372036854775808 ≤ n ∧ n ≤ 9223372036854775807 := by simp [Lit.wf, IntKind.min, IntKind.max, IntKind.signed, IntKind.bits] at h; omega
theorem u8w {n : Int} (h : (Lit.int .u8 n).wf = true) : 0 ≤ n ∧ n ≤ 255 := bounds_u8 h
end

/-! ### Liftd -/
section
open Go.ChangeShapes Go.WideShapes Go.ChangeAt Go.RowKit

/-- The list that the rows bear. -/
abbrev lst : List (String × DataW Unit) := Rows.compileMakesRow.laid
set_option maxRecDepth 100000 in
theorem tabs_of {W : World} (h : laidMetH Tryz.prog lst W) : Tabs W := by
  have ht : Lib.TabIs Tryz.prog W "math/bits.deBruijn32tab" .u8 (Lib.deBruijn32tab.map fun (n : Nat) => (n : Int)) :=
    Lib.tabIs_of_head (g := 1) (t := 187) (e := 5) (n := 32) (rest := lst.tail)
      (by kernel_rfl) (by kernel_rfl) Tryz.underlying187 Tryz.underlying5 (by kernel_rfl) (by kernel_rfl) h
  intro j hj
  have := ht.cell (g := 1) (by kernel_rfl) j (by simpa using hj)
  rw [this]
  simp only [List.getD, List.getElem?_map, List.getElem?_eq_getElem hj]
  rfl

set_option maxRecDepth 100000 in
theorem door_met (os : Os) (args : Array Value) : laidMetH Tryz.prog lst ((World.doorLaid Tryz.prog 24 os).forCall (fun _ _ => 0) ⟨#[], args, []⟩).memory :=
  laidMetH_of_parts3 (fuel := 8) (laidMet_of_run' 8 (by kernel_rfl) (by kernel_rfl)) (by kernel_rfl) (by kernel_rfl)
set_option maxRecDepth 100000 in
theorem door_shaped (os : Os) (args : Array Value) : ((World.doorLaid Tryz.prog 24 os).forCall (fun _ _ => 0) ⟨#[], args, []⟩).Shaped Tryz.prog := World.shaped_of_RefB (by kernel_rfl) (by kernel_rfl)

/-- What a walk of a law is asked: called with arguments that can be read, the tables lying as they do, it returns true, and all old memory stays. -/
def WalkedT (k : FuncId) (fn : Func) : Prop :=
  ∀ (H : Type) (enc : TypeId × Value → H) (W : World) (base : Nat) (args : Array Value) (ds : List (DataW H)) (p : List MemPlace), Tabs W →
    (∀ (j : Nat) t v, fn.params[j]? = some t → args[j]? = some v → Value.okWide Tryz.prog W .any base t v) →
    DataW.TrodAll enc Tryz.prog W 0 (fun _ => true) true fn.params.toList args.toList ds p →
    Calls Tryz.prog k args W fun e W' => e = .returned (.bool true) ∧ Below W.heap.size W W'

theorem trodAll_len {H : Type} {enc : TypeId × Value → H} {W : World} : ∀ {ts : List TypeId} {vs : List Value} {ds : List (DataW H)} {ps : List MemPlace}, DataW.TrodAll enc Tryz.prog W 0 (fun _ => true) true ts vs ds ps → ds.length = ts.length := by
  intro ts
  induction ts with
  | nil => intro vs ds ps h; cases vs <;> cases ds <;> first | rfl | exact h.elim
  | cons t ts ih =>
    intro vs ds ps h
    cases vs with
    | nil => exact h.elim
    | cons v vs =>
      cases ds with
      | nil => exact h.elim
      | cons d ds =>
        obtain ⟨_, _, _, h2, _⟩ := h
        simp [ih h2]

set_option maxRecDepth 100000 in
theorem law_liftedT {os : Os} (started : os.Started) {H : Type} {enc : TypeId × Value → H} {k : FuncId} {fn : Func} {s : ChangeSpec} (hf : Tryz.prog.funcs[k]? = some fn) (noInit : Tryz.prog.inits.idxOf? k = none)
    (hres : fn.resultTypes = #[4]) (hvars : s.vars = []) (hty : tysOk Tryz.prog fn.params.toList = true)
    (hspec : ∀ ds : List (DataW H), ds.length = fn.params.size → (s.fn H ds).results = [.lit (.bool true)] ∧ (s.fn H ds).args = ds ∧ (s.fn H ds).vars = [])
    (args : Array Value)
    (hok : Input.okWideB Tryz.prog ((World.doorLaid Tryz.prog 24 os).forCall (fun _ _ => 0) ⟨#[], args, []⟩) k ⟨#[], args, []⟩ = true)
    (hpre : s.preB enc Tryz.prog fn [] false ((World.doorLaid Tryz.prog 24 os).forCall (fun _ _ => 0) ⟨#[], args, []⟩).memory args 8 = true)
    (hsz : s.sizedB enc Tryz.prog fn false ((World.doorLaid Tryz.prog 24 os).forCall (fun _ _ => 0) ⟨#[], args, []⟩).memory args 8 = true)
    (walk : WalkedT k fn) :
    ReturnsInHanded {} Tryz.checked os k .any (fun w args => (s.pre enc Tryz.prog fn [] false w args ∧ laidMetH Tryz.prog lst w) ∧ sizedMet enc Tryz.prog fn (OpenSpec.ofChange s) false w args) (s.post enc Tryz.prog fn false true false false) := by
  refine returnsInHanded_of_change_and (C := Tryz.checked) (X := fun w _ => laidMetH Tryz.prog lst w) (fun _ _ _ hh h => h.of_heap hh) own started noInit hf
    (ChangeSpec.witness_shaped (enc := enc) (C := Tryz.checked) (os := os) (X := fun w _ => laidMetH Tryz.prog lst w) false (World.doorLaid Tryz.prog 24 os) args 8 rfl (door_shaped os args) hok hpre hsz (door_met os _)) ?_
  intro W base args ds gs before hval hW _ _ hL _
  have hW' := hW
  obtain ⟨p, q, hA, hV, rfl, hz, hn⟩ := hW
  refine (walk H enc W base args ds p (tabs_of hL) hval hA).mono fun e W' ⟨he, hb⟩ => ?_
  subst he
  have hlen : ds.length = fn.params.size := by rw [trodAll_len hA]; simp
  obtain ⟨h1, h2, h3⟩ := hspec ds hlen
  exact ⟨_, rfl, law_post laidOut resBool hres hvars hty hW' h1 h2 h3 hb⟩

theorem word_slice {P : Program} {H : Type} {enc : TypeId × Value → H} {w : World} {base : Nat} {held : Bool} {t e : TypeId} {fuel : Nat} {cs : List Value} {x : DataW H × List MemPlace}
    (ht : P.underlying t = some (.slice e)) (he : P.underlying e = some (.int .u32)) (hc : P.cellsOf e = 1) (h : DataW.trod enc P w base (fun _ => true) held fuel t cs = some x) :
    ∃ (A : Option Addr) (n c : Nat) (f : Nat → Nat), cs = [.slice A n c] ∧ SlOk A n c ∧ Rd w A n f ∧ ∀ i, i < n → f i < 4294967296 := by
  rcases open_ints ht he hc h with ⟨rfl, _⟩ | ⟨a, len, cap, zs, rfl, _, hl, hm, hz, _, hcell, hwf⟩
  · exact ⟨none, 0, 0, fun _ => 0, rfl, ⟨Nat.le_refl _, Nat.zero_le _, fun _ => ⟨rfl, rfl⟩⟩, Rd.none_, fun i hi => by omega⟩
  · rw [if_pos rfl] at hz
    have hb : ∀ i, i < len → 0 ≤ zs.getD i 0 ∧ zs.getD i 0 < 4294967296 := fun i hi => by
      have hi' : i < zs.length := by omega
      have := hwf (zs.getD i 0) (by rw [List.getD_eq_getElem?_getD, List.getElem?_eq_getElem hi']; exact List.getElem_mem hi')
      generalize zs.getD i 0 = z at this
      simp [Lit.wf, IntKind.min, IntKind.max, IntKind.signed, IntKind.bits] at this
      omega
    refine ⟨some a, len, cap, fun i => (zs.getD i 0).toNat, rfl, ⟨hl, hm, fun h => by cases h⟩, fun h1 => ?_, fun i hi => by have := hb i hi; show (zs.getD i 0).toNat < _; omega⟩
    obtain ⟨b, off, rfl, hc'⟩ := ints_at hcell (by omega)
    refine ⟨b, off, rfl, World.block_lt_of_cell? w _ (hc' 0 (by omega)), fun i hi => ?_⟩
    have := hb i hi
    rw [hc' i (by omega)]
    show some (Value.int .u32 (zs.getD i 0)) = some (Value.int .u32 ((zs.getD i 0).toNat : Int))
    rw [Int.toNat_of_nonneg this.1]

set_option maxRecDepth 100000 in
theorem open_dy {H : Type} {enc : TypeId × Value → H} {w w' : World} {base b0 : Nat} {held : Bool} {v : Value} {d : DataW H} {p : List MemPlace}
    (hv : Value.okWide Tryz.prog w' .any b0 66 v) (h : DataW.Trod enc Tryz.prog w base (fun _ => true) held 66 v d p) :
    ∃ (neg : Bool) (A : Option Addr) (n c : Nat) (den : Int) (f : Nat → Nat), v = dv neg A n c den ∧ Rd w A n f ∧ SlOk A n c ∧ (∀ i, i < n → f i < 4294967296) ∧ (Lit.int .i64 den).wf = true := by
  obtain ⟨cs, rfl, _⟩ := okWide_struct Tryz.underlying66 hv
  obtain ⟨l⟩ := cs
  obtain ⟨fuel, hd⟩ := h
  have hd' : DataW.trod enc Tryz.prog w base (fun _ => true) held fuel 66 l = some (d, p) := hd
  obtain ⟨xs, m, _, _, hl, hlen, hf⟩ := DataW.trod_struct Tryz.underlying66 hd'
  have h3 : l.length = 3 := by rw [hl]; kernel_rfl
  match xs, hlen with
  | [y0, y1, y2], _ =>
    match l, h3 with
    | [c0, c1, c2], _ =>
      have k0 : Tryz.prog.cellsOf 4 = 1 := by kernel_rfl
      have k1 : Tryz.prog.cellsOf 64 = 1 := by kernel_rfl
      have k2 : Tryz.prog.cellsOf 3 = 1 := by kernel_rfl
      have e0 : DataW.trod enc Tryz.prog w base (fun _ => true) held m 4 (([c0, c1, c2].drop 0).take (Tryz.prog.cellsOf 4)) = some y0 := hf 0 _ rfl
      have e1 : DataW.trod enc Tryz.prog w base (fun _ => true) held m 64 (([c0, c1, c2].drop 1).take (Tryz.prog.cellsOf 64)) = some y1 := hf 1 _ rfl
      have e2 : DataW.trod enc Tryz.prog w base (fun _ => true) held m 3 (([c0, c1, c2].drop 2).take (Tryz.prog.cellsOf 3)) = some y2 := hf 2 _ rfl
      rw [k0] at e0
      rw [k1] at e1
      rw [k2] at e2
      obtain ⟨neg, h0, _⟩ := DataW.trod_bool Tryz.underlying4 e0
      obtain ⟨A, n, c, f, h1, ok, rd, hb⟩ := word_slice Tryz.underlying64 Tryz.underlying154 (by kernel_rfl) e1
      obtain ⟨den, h2, _, hw⟩ := DataW.trod_int Tryz.underlying3 e2
      cases h0; cases h1; cases h2
      exact ⟨neg, A, n, c, den, f, rfl, rd, ok, hb, hw⟩
end

end Go.Proofs.YtkocmdpfknoiaaaGreatDoor
