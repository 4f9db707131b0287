/- Diagrams: the search that the code makes (reached). -/
import Derived.Test.YtgajibdmihdkcaaDoorDgj
namespace Go.Proofs.YtgajibdmihdkcaaDoor
open Go Go.RowKit

/-- What is asked of the library's Sort. -/
def SortC : Prop := ∀ (w : World) (base c : Nat) (A : Option Addr) (L S : List Nat), OwL w base A c L → S.Perm L → S.Pairwise (· < ·) → L.length ≤ 1000 →
  Calls Tryd.prog 78 #[.slice A L.length c] w fun e w' => e = .returned (.tuple #[]) ∧ OwL w' base A c S ∧ w.grownBy w' (Value.slice A L.length c).ownBlock
/-- What is asked of the way of going on, in worlds that grew from w. -/
def NextC (nb : Nat) (N : Nx) (g : FuncId) (cb : Array Value) (w : World) : Prop := ∀ (i : Nat) (w' : World), i < nb → Ext w w' → Calls Tryd.prog g (#[I i] ++ cb) w' (SrP (N.nn i) (fun j => ((N.nx i j : Nat) : Int)) w')

theorem OwL.keep {w w' : World} {base c : Nat} {A : Option Addr} {L : List Nat} {v : Value} (h : OwL w base A c L) (e : w.grownBy w' v.ownBlock) (hne : ∀ k, (Value.slice A L.length c).ownBlock = some k → v.ownBlock ≠ some k) : OwL w' base A c L := by
  refine World.ownsRow.kept h e ?_
  cases hv : (Value.slice A L.length c).ownBlock with
  | none => simp
  | some k => right; intro q; exact hne k hv q.symm
theorem ownBlock_len (A : Option Addr) (n m c d : Nat) : (Value.slice A n c).ownBlock = (Value.slice A m d).ownBlock := by cases A <;> rfl
theorem OwL.pop {w : World} {base c : Nat} {A : Option Addr} {W : List Nat} {i : Nat} (h : OwL w base A c (W ++ [i])) : OwL w base A c W := by
  obtain ⟨hl, ⟨e, h0⟩ | ⟨g, cap, cur, e, a, b, c1, d, f, ht⟩⟩ := h
  · simp at h0
  · injection e with e1 e2 e3
    refine ⟨by simp [nI], .inr ⟨g, cap, cur, by rw [e1, e3], a, b, by simp at c1; omega, d, f, ?_⟩⟩
    have : cur.toList.take (W.length * 1) = (cur.toList.take ((W ++ [i]).length * 1)).take (W.length * 1) := by rw [List.take_take]; congr 1; simp
    rw [this, ht]
    simp [nI]
/-- What the search keeps. -/
structure RcM (W1 w : World) (gl : Nat) (nb : Nat) (N : Nx) (st F : Nat → Bool) (A : Option Addr) (c : Nat) (L : List Nat) (B : Option Addr) (e : Nat) (W : List Nat) : Prop where
  ext : Ext W1 w
  glz : W1.heap.size = gl
  own : OwL w (gl + 1) A c L
  wait : OwL w (gl + 1) B e W
  apart : ∀ k, (Value.slice A L.length c).ownBlock = some k → (Value.slice B W.length e).ownBlock ≠ some k
  row : w.rowIs gl 4 nb (fun i => .bool (F i))
  dfs : Dfs nb N st F L W
  few : W.length ≤ 64 + 2 * L.length
  sz : L.length + cnt nb (fun i => !F i) = nb
theorem RcM.skip {W1 w w' : World} {gl nb : Nat} {N : Nx} {st F : Nat → Bool} {A B : Option Addr} {c e i : Nat} {L W : List Nat} (h : RcM W1 w gl nb N st F A c L B e (W ++ [i])) (x : Ext w w') (hf : F i = true) : RcM W1 w' gl nb N st F A c L B e W where
  ext := h.ext.trans x
  glz := h.glz
  own := h.own.ext x
  wait := h.wait.pop.ext x
  apart := fun k hk => by rw [ownBlock_len B W.length (W ++ [i]).length e e]; exact h.apart k hk
  row := h.row.ext x
  dfs := h.dfs.skip hf
  few := by have := h.few; simp at this; omega
  sz := h.sz
/-- The store to found. -/
theorem RcM.mark {W1 w : World} {gl nb : Nat} {N : Nx} {st F : Nat → Bool} {A B : Option Addr} {c e i : Nat} {L W : List Nat} (h : RcM W1 w gl nb N st F A c L B e (W ++ [i])) :
    Ext W1 (w.setCell ⟨gl, i, none⟩ (.bool true)) ∧ OwL (w.setCell ⟨gl, i, none⟩ (.bool true)) (gl + 1) A c L ∧ OwL (w.setCell ⟨gl, i, none⟩ (.bool true)) (gl + 1) B e W ∧
    (w.setCell ⟨gl, i, none⟩ (.bool true)).rowIs gl 4 nb (fun x => .bool (if x = i then true else F x)) := by
  have gr : w.grownBy (w.setCell ⟨gl, i, none⟩ (.bool true)) (some gl) := ⟨rfl, rfl, rfl, by simp, fun k _ hk => Below.heap_setCell _ _ _ k (fun q => hk (by simp [q]))⟩
  refine ⟨h.ext.set (by show _ ≤ gl; rw [h.glz]; omega) _, h.own.off (g := gl) gr (by omega), h.wait.pop.off (g := gl) gr (by omega), (h.row.set i (.bool true)).congr fun x _ => ?_⟩
  by_cases q : x = i <;> simp [q]
theorem RcM.take {W1 w wa wb wc wd : World} {gl nb : Nat} {N : Nx} {st F : Nat → Bool} {A B C E : Option Addr} {c e i k d : Nat} {L W V : List Nat} (h : RcM W1 w gl nb N st F A c L B e (W ++ [i])) (hf : F i = false)
    (xa : Ext (w.setCell ⟨gl, i, none⟩ (.bool true)) wa)
    (oL : OwL wb (gl + 1) C k (L ++ [i])) (gL : wa.grownBy wb (Value.slice A L.length c).ownBlock) (aL : (Value.slice C (L ++ [i]).length k).ownBlock = (Value.slice A L.length c).ownBlock ∨ (Value.slice C (L ++ [i]).length k).ownBlock = some wa.heap.size)
    (xc : Ext wb wc)
    (oW : OwL wd (gl + 1) E d (W ++ V)) (gW : wc.grownBy wd (Value.slice B W.length e).ownBlock) (aW : (Value.slice E (W ++ V).length d).ownBlock = (Value.slice B W.length e).ownBlock ∨ (Value.slice E (W ++ V).length d).ownBlock = some wc.heap.size)
    (hV : ∀ x, x ∈ V ↔ ∃ j, j < N.nn i ∧ x = N.nx i j) (hlt : ∀ j, j < N.nn i → N.nx i j < nb) (h2 : V.length ≤ 2) :
    RcM W1 wd gl nb N st (fun x => if x = i then true else F x) C k (L ++ [i]) E d (W ++ V) := by
  obtain ⟨m1, m2, m3, m4⟩ := h.mark
  have hi : i < nb := h.dfs.lt i (.inr (by simp))
  have oLa := m2.ext xa
  have oWa := m3.ext xa
  have hap : ∀ q, (Value.slice B W.length e).ownBlock = some q → (Value.slice A L.length c).ownBlock ≠ some q := fun q hq hq' => h.apart q hq' (by rw [ownBlock_len B _ W.length e e]; exact hq)
  have oWb : OwL wb (gl + 1) B e W := oWa.keep gL hap
  have eb : Ext W1 wb := grow_ext (m1.trans xa) oLa (by rw [h.glz]; omega) gL
  have oWc := oWb.ext xc
  have ed : Ext W1 wd := grow_ext (eb.trans xc) oWc (by rw [h.glz]; omega) gW
  -- the new list lies apart from what waits
  have hap2 : ∀ q, (Value.slice C (L ++ [i]).length k).ownBlock = some q → (Value.slice B W.length e).ownBlock ≠ some q := fun q hq hq' => by
    rcases aL with a | a
    · exact hap q hq' (by rw [← a]; exact hq)
    · rw [a] at hq; injection hq with hq; have := (oWa.lt q hq').2; omega
  refine ⟨ed, h.glz, (oL.ext xc).keep gW hap2, oW, fun q hq hq' => ?_, ?_, h.dfs.take hf hV hlt, ?_, ?_⟩
  · rcases aW with a | a
    · exact hap2 q hq (by rw [← a]; exact hq')
    · rw [a] at hq'; injection hq' with hq'
      have := ((oL.ext xc).lt q hq).2; omega
  · have r1 := (m4.ext xa).of_block (gL.block gl (m4.ext xa).lt (fun q => by have := (oLa.lt gl q.symm).1; omega))
    exact (r1.ext xc).of_block (gW.block gl (r1.ext xc).lt (fun q => by have := (oWc.lt gl q.symm).1; omega))
  · have := h.few; simp at this ⊢; omega
  · have := cnt_put (n := nb) (j := i) (p := fun x => !(if x = i then true else F x)) (q := fun x => !F x) hi (by simp) (by simp [hf]) (fun x hx => by simp [hx])
    have := h.sz
    simp only [List.length_append, List.length_singleton]
    omega
theorem RcM.mid {W1 w wa wb wc : World} {gl nb : Nat} {N : Nx} {st F : Nat → Bool} {A B : Option Addr} {c e i : Nat} {L W : List Nat} (h : RcM W1 w gl nb N st F A c L B e (W ++ [i]))
    (xa : Ext (w.setCell ⟨gl, i, none⟩ (.bool true)) wa) (gL : wa.grownBy wb (Value.slice A L.length c).ownBlock) (xc : Ext wb wc) : OwL wc (gl + 1) B e W := by
  obtain ⟨m1, m2, m3, m4⟩ := h.mark
  have hap : ∀ q, (Value.slice B W.length e).ownBlock = some q → (Value.slice A L.length c).ownBlock ≠ some q := fun q hq hq' => h.apart q hq' (by rw [ownBlock_len B _ W.length e e]; exact hq)
  exact ((m3.ext xa).keep gL hap).ext xc
theorem RcM.len {W1 w : World} {gl nb : Nat} {N : Nx} {st F : Nat → Bool} {A B : Option Addr} {c e : Nat} {L W : List Nat} (h : RcM W1 w gl nb N st F A c L B e W) : L.length ≤ nb := by have := h.sz; omega

theorem OwL.last {w : World} {base c : Nat} {A : Option Addr} {W : List Nat} {i : Nat} (h : OwL w base A c (W ++ [i])) : ∃ g, A = some ⟨g, 0, none⟩ ∧ w.cell? ⟨g, W.length, none⟩ = some (I i) ∧ W.length + 1 ≤ c ∧ c ≤ maxLen := by
  have h' := h
  obtain ⟨_, ⟨e, h0⟩ | ⟨g, cap, cur, e, _, _, h3, h4, _⟩⟩ := h'
  · simp at h0
  · injection e with e1 e2 e3
    subst e1; subst e3
    refine ⟨g, rfl, ?_, by simp at h3; omega, h4⟩
    have := World.ownsRow.cellAt h W.length (by simp)
    rw [this]; simp [nI]
/-- The marked blocks of the search are those that are reached. -/
theorem RcM.end_ {W1 w : World} {gl nb : Nat} {N : Nx} {st F R : Nat → Bool} {A B : Option Addr} {c e : Nat} {L : List Nat} (h : RcM W1 w gl nb N st F A c L B e []) (hR : IsR nb N st R) : (mkL nb R).Perm L := by
  have hF := h.dfs.fin
  have e : mkL nb R = mkL nb F := mkL_congr fun i _ => hR.uniq hF i
  rw [e]
  exact perm_mkL h.dfs.mem (fun i hi => h.dfs.lt i (.inl hi)) h.dfs.nodup

set_option maxRecDepth 100000 in
set_option maxHeartbeats 2000000 in
theorem reached_any (HSo : SortC) {w : World} {D : Dia} {p : Pl} {g : FuncId} {cb : Array Value} {A : Option Addr} {c : Nat} {S : List Nat} {N : Nx} {st R : Nat → Bool} (hnb : D.nb ≤ 64) (r : Rl w A c S) (hS : S.length ≤ 64) (hlt : ∀ x, x ∈ S → x < D.nb)
    (eg : ∀ args w, (callFunc g args).run Tryd.prog w = .ok (.enter g args) w) (hn : NextC D.nb N g cb w) (hN : ∀ i j, i < D.nb → j < N.nn i → N.nx i j < D.nb) (hN2 : ∀ i, i < D.nb → N.nn i ≤ 2) (hst : ∀ i, st i = true ↔ i ∈ S) (hR : IsR D.nb N st R) :
    Calls Tryd.prog 62 #[dgv D p, .slice A S.length c, .func (.func g) #[] cb] w (LsR (mkL D.nb R) w) := by
  have hmk := run_make_row' 55 4 (.bool false) 1 Tryd.underlying55 infoB rfl .i64 .i64 D.nb (by omega) (by omega)
  obtain ⟨W1, hW1⟩ : ∃ W1, W1 = w.alloc (.cells #[.slice p.AI D.ni p.cI, .slice p.AB D.nb p.cB, .slice p.AO D.no p.cO] 26) := ⟨_, rfl⟩
  have hE : Ext w W1 := by rw [hW1]; exact Ext.alloc _ _
  have hz1 : W1.heap.size = w.heap.size + 1 := by rw [hW1]; simp
  have HE := Lib.hid hE
  have HW1 := Lib.hid hW1
  have HRL := Lib.hid r
  have HN := Lib.hid hn
  have HN1 := Lib.hid hN
  have HN2 := Lib.hid hN2
  have HR := Lib.hid hR
  have HSO := Lib.hid HSo
  have HST : Hid (∀ w3 B e, Ext (W1.alloc (.cells (madeCells #[.bool false] D.nb) 4)) w3 → OwL w3 (W1.alloc (.cells (madeCells #[.bool false] D.nb) 4)).heap.size B e S → RcM W1 w3 (w.heap.size + 1) D.nb N st (fun _ => false) none 0 [] B e S) :=
    fun w3 B e x o => ⟨(Ext.alloc _ _).trans x, hz1, OwL.nil _ _, by have := o; simp only [World.alloc, Array.size_push, hz1] at this; exact this, fun k hk => by simp [Value.ownBlock] at hk,
      (rowIs_made' W1 (.bool false) D.nb 4 hz1.symm).ext x, Dfs.start hlt hst, by simp; omega, by
        have := (OrdI.nil D).len
        have e2 : cnt D.nb (fun i => !inL [] i) = cnt D.nb (fun _ => !false) := rfl
        rw [e2] at this; exact this⟩
  clear hE hW1 r hn hN hN2 hR HSo hst hlt
  go_enter Tryd.func62, Tryd.ntmps62
  go_upto_region 4 with (go_at_call 46; (refine (cloneL_any (HRL.out.ext ((Ext.alloc _ _).trans (Ext.alloc _ _))) (by omega)).mono ?_); rintro e0 w3 ⟨B, e, rfl, o3, x3⟩; have O3 := Lib.hid o3; have X3 := Lib.hid x3; clear o3 x3)
  have HST2 := Lib.hid (HST.out w3 B e (by rw [HW1.out]; exact X3.out) (by rw [HW1.out]; exact O3.out))
  clear HST O3 X3
  go_loopw [8, 9] (fun s t wr => ∃ A c L B e Wt F, s = .slice A (List.length L) c ∧ t = .slice B (List.length Wt) e ∧ Hid (RcM W1 wr (w.heap.size + 1) D.nb N st F A c L B e Wt)) (fun s t _ => 3 * (D.nb - lenV s) + lenV t)
  case atStart => exact ⟨none, 0, [], B, e, S, _, rfl, rfl, HST2⟩
  case round =>
    clear HST2
    obtain ⟨A1, c1, L, B1, e1, Wt, F, rfl, rfl, H⟩ := hrel
    have hl := H.out.len
    have hsz := H.out.ext.size
    rcases List.eq_nil_or_concat Wt with rfl | ⟨W, i, rfl⟩
    · have HP := Lib.hid (H.out.end_ HR.out)
      have HSo := Lib.hid (HSO.out wr (w.heap.size + 1 + 1) c1 A1 L (mkL D.nb R) H.out.own HP.out (mkL_sorted _ _) (by omega))
      go_wp2_with (go_at_call 78; refine HSo.out.mono ?_; rintro e6 w6 ⟨rfl, o6, g6⟩; have O6 := Lib.hid o6; have G6 := Lib.hid g6; clear o6 g6)
      go_ret
      have hlen : L.length = (mkL D.nb R).length := HP.out.length_eq.symm
      exact ⟨A1, c1, by rw [← hlen]; rfl, O6.out.mono (by omega), HE.out.trans (grow_ext H.out.ext H.out.own (by omega) G6.out)⟩
    · rw [List.concat_eq_append] at H ⊢
      obtain ⟨g0, rfl, hcell, hcap, hcm⟩ := H.out.wait.last
      have hfew := H.out.few
      have hi := H.out.dfs.lt i (.inr (by simp))
      have hil : (i : Int) < (D.nb : Int) := by omega
      have hfc := H.out.row.cell hi
      have hff := H.out.row.frozen i
      have hlW : (W ++ [i]).length = W.length + 1 := by simp
      rw [hlW] at hfew ⊢
      clear hlW
      unfold maxLen at hcm
      cases hf : F i with
      | true =>
        rw [hf] at hfc
        have HF := Lib.hid hf
        clear hf
        go_wp2_with fail
        go_roundw
        case rel => exact ⟨A1, c1, L, some ⟨g0, 0, none⟩, e1, W, F, rfl, rfl, H.out.skip (Ext.refl _) HF.out⟩
        case measure => simp [lenV]
      | false =>
        rw [hf] at hfc
        have HF := Lib.hid hf
        have hn2 := HN2.out i hi
        have hlL : L.length < D.nb := by
          have := H.out.sz
          have := cnt_put (n := D.nb) (j := i) (p := fun x => !(if x = i then true else F x)) (q := fun x => !F x) hi (by simp) (by simp [hf]) (fun x hx => by simp [hx])
          omega
        obtain ⟨m1, m2, m3, m4⟩ := H.out.mark
        have M2 := Lib.hid m2; have M3 := Lib.hid m3; have M1 := Lib.hid m1
        have HNI := Lib.hid (HN.out i)
        have hV : ∀ x, x ∈ (List.range (N.nn i)).map (N.nx i) ↔ ∃ j, j < N.nn i ∧ x = N.nx i j := fun x => by
          rw [List.mem_map]
          constructor
          · rintro ⟨j, hj, rfl⟩; exact ⟨j, List.mem_range.1 hj, rfl⟩
          · rintro ⟨j, hj, rfl⟩; exact ⟨j, List.mem_range.2 hj, rfl⟩
        have HV := Lib.hid hV
        have HVl : Hid (((List.range (N.nn i)).map (N.nx i)).length = N.nn i) := by show _ = _; simp
        have HVf : Hid (∀ j, j < N.nn i → ((N.nx i j : Nat) : Int) = ((((List.range (N.nn i)).map (N.nx i)).getD j 0 : Nat) : Int)) := fun j hj => by
          simp [List.getD, hj]
        have HVt := Lib.hid (fun j (hj : j < N.nn i) => HN1.out i j hi hj)
        clear hf m1 m2 m3 m4 hV
        generalize hVV : (List.range (N.nn i)).map (N.nx i) = V at *
        clear hVV
        go_wp2_with (first
          | (have hg := x7; clear hg; at_builtin; refine appM rfl _ _ rfl (w.heap.size + 1 + 1) (some ⟨g0, 0, none⟩) e1 W rfl O3.out _ _ c7 _ rfl R7.out.1 R7.out.2 V HVl.out HVf.out (by omega) (by have h1 := x7.size; have h2 := GB.out.size; simp at h2; omega) ?_; intro B8 e8 w8 o8 g8 a8; have O8 := Lib.hid o8; have G8 := Lib.hid g8; have A8 := Lib.hid a8; clear o8 g8 a8)
          | (at_builtin; refine appL rfl _ _ rfl (w.heap.size + 1 + 1) A1 c1 L rfl (M2.out.ext (Ext.alloc _ _)) _ _ i rfl (by go_simp) (by omega) (by simp; omega) ?_; intro gA capA wb hown hgrow hat hgz; have OB := Lib.hid hown; have GB := Lib.hid hgrow; have AB := Lib.hid hat; clear hown hgrow hat)
          | (go_at_fn g; (refine (HNI.out _ hi (HE.out.trans (grow_ext (M1.out.trans (Ext.alloc _ _)) (M2.out.ext (Ext.alloc _ _)) (by omega) GB.out))).mono ?_); rintro e7 wc ⟨A7, c7, rfl, r7, n7, x7⟩; have R7 := Lib.hid (And.intro r7 n7); have O3 := Lib.hid (H.out.mid (Ext.alloc _ _) GB.out x7); clear r7 n7))
        go_roundw
        case rel => exact ⟨some ⟨gA, 0, none⟩, capA, L ++ [i], B8, e8, W ++ V, _, by simp, by simp, H.out.take HF.out (Ext.alloc _ _) OB.out GB.out (by
          rcases AB.out with a | a
          · left; rw [a]; rfl
          · right; rw [← a]; rfl) x7 O8.out G8.out A8.out HV.out HVt.out (by rw [HVl.out]; exact hn2)⟩
        case measure =>
          have := HVl.out
          simp [lenV]; omega
end Go.Proofs.YtgajibdmihdkcaaDoor