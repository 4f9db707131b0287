/- Texts: writing into a strings.Builder. -/
import Derived.Test.YtcdkkohklhmpgaaGreatDoorShelg
import Derived.Test.YtcdkkohklhmpgaaGreatDoorNatk
import Derived.Test.YtcdkkohklhmpgaaGreatDoorDyat
import Derived.Laws.Externs
import Derived.Shelf.Strings.Builder1
import Derived.Shelf.Strings.Repeat
import Derived.Shelf.Strconv.Itoa0
import Derived.Shelf.Strconv.Itoa4
import Derived.Test.YtcdkkohklhmpgaaGreatDoorMdyf
import Derived.Test.YtcdkkohklhmpgaaGreatDoorDyn
namespace Go.Proofs.YtcdkkohklhmpgaaGreatDoor

/-! ### Txt -/
section
open Go.RowKit Go.Shelf

theorem awkInfoB : (Tryz.prog.info? 213).map (·.size) = some 2 := by kernel_rfl
theorem liesB : liesAt Tryz.prog Tryz.prog.depth 213 (2 / Tryz.prog.cellsOf 213) 0 213 1 = true := by kernel_rfl
theorem infoBy : (Tryz.prog.info? 5).map (fun i => (i.zero, i.size, i.bytes)) = some (some (.int .u8 0), 1, 1) := by kernel_rfl

set_option maxRecDepth 100000 in
set_option maxHeartbeats 1000000 in
theorem check_used (b : Nat) (w : World) (h0 : w.cell? ⟨b, 0, none⟩ = some (.pointer (some ⟨b, 0, none⟩))) :
    Calls Tryz.prog 243 #[.pointer (some ⟨b, 0, none⟩)] w fun e w' => e = .returned (.tuple #[]) ∧ w' = w := by
  obtain ⟨j, hj, _⟩ := Option.map_eq_some_iff.1 awkInfoB
  go_enter Tryz.func243, Tryz.ntmps243
  go_wp2
  rw [Lib.run_neq_ptr_same w _ Tryz.underlying211 hj]
  go_wp2
  go_end0
  exact ⟨rfl, rfl⟩

set_option maxRecDepth 100000 in
set_option maxHeartbeats 1000000 in
theorem check_fresh (b : Nat) (w : World) (h0 : w.cell? ⟨b, 0, none⟩ = some (.pointer none)) (hsh : w.shape? b = some (213, 2)) (hfz : w.frozen? ⟨b, 0, none⟩ = false) :
    Calls Tryz.prog 243 #[.pointer (some ⟨b, 0, none⟩)] w fun e w' => e = .returned (.tuple #[]) ∧ w' = w.setCell ⟨b, 0, none⟩ (.pointer (some ⟨b, 0, none⟩)) := by
  obtain ⟨j, hj, hjs⟩ := Option.map_eq_some_iff.1 awkInfoB
  go_enter Tryz.func243, Tryz.ntmps243
  go_wp2
  rw [Lib.run_to_unsafe w ⟨b, 0, none⟩ Tryz.underlying211 Tryz.underlying239 hj (by rw [hjs]; decide) hsh (Nat.zero_lt_succ 1)]
  simp only [Result.andThen]
  rw [Oper.upon_value]
  go_wp2
  rw [run_callFunc_extern Tryz.func259 (by kernel_rfl) (by kernel_rfl) (by kernel_rfl) (e := Extern.AbiNoEscape.same) (by kernel_rfl)]
  rw [Lib.run_noEscape]
  simp only [Result.andThen]
  rw [Oper.upon_value]
  go_wp2
  rw [Lib.run_from_unsafe w ⟨b, 0, none⟩ Tryz.underlying239 Tryz.underlying211 hj hsh liesB]
  simp only [Result.andThen]
  rw [Oper.upon_value]
  go_wp2
  go_end0
  exact ⟨rfl, rfl⟩

abbrev IsB (B b : Nat) (l : List UInt8) (w : World) : Prop := Lib.IsBuilder 213 5 B b (Lib.byteCells l) w
def WrRes (B b : Nat) (l : List UInt8) (s : ByteArray) (w : World) (e : Ending) (w' : World) : Prop := e = .returned (.tuple #[I s.size, .nilIface]) ∧ IsB B b (l ++ s.data.toList) w' ∧ Below B w w'
theorem bcheck_any (B b : Nat) (bs : List Value) (w : World) (h : Lib.IsBuilder 213 5 B b bs w) :
    Calls Tryz.prog 243 #[.pointer (some ⟨b, 0, none⟩)] w fun e w' => e = .returned (.tuple #[]) ∧ Lib.BuilderAt 213 5 B b (.pointer (some ⟨b, 0, none⟩)) bs w' ∧ Below B w w' := by
  rcases h with h | h
  · refine (check_fresh b w h.cell0 h.shape h.frozen0).mono ?_
    rintro e w' ⟨rfl, rfl⟩
    exact ⟨rfl, h.used _, (Below.refl B w).setCell (p := ⟨b, 0, none⟩) h.1 _⟩
  · refine (check_used b w h.cell0).mono ?_
    rintro e w' ⟨rfl, rfl⟩
    exact ⟨rfl, h, Below.refl B _⟩

set_option maxRecDepth 100000 in
set_option maxHeartbeats 1000000 in
theorem write_any (B b : Nat) (l : List UInt8) (s : ByteArray) (w : World) (h : IsB B b l w) (hlen : (Lib.byteCells l).length + s.size ≤ 140737488355328) (hBw : B ≤ w.heap.size) :
    Calls Tryz.prog 232 #[.pointer (some ⟨b, 0, none⟩), .string s] w (WrRes B b l s w) := by
  obtain ⟨i0, hi, hz0, hz1, hz2⟩ := info_parts infoBy
  have HL := Lib.hid hlen; clear hlen
  go_enter Tryz.func232, Tryz.ntmps232
  go_wp2_with (go_at_call 243; refine (bcheck_any B b _ _ h).mono ?_)
  rintro e w1 ⟨rfl, h1, hb1⟩
  obtain ⟨hB, v, hbk, hown, hne⟩ := h1
  have c0 : w1.cell? ⟨b, 0, none⟩ = some (.pointer (some ⟨b, 0, none⟩)) := by rw [Lib.cell_of_heap hbk]; rfl
  have c1 : w1.cell? ⟨b, 1, none⟩ = some v := by rw [Lib.cell_of_heap hbk]; rfl
  go_wp2_with (at_builtin; refine Lib.wpList_append_own_string _ rfl _ _ 70 9 rfl B 5 i0 Tryz.underlying70 Tryz.underlying9 hi hz0 hz1 hz2 _ _ _ rfl hown s rfl ?c3 ?c4 ?c5 ?_)
  case c3 => have := HL.out; unfold maxLen; omega
  case c4 => have := HL.out; omega
  case c5 => have := hb1.size; omega
  intro v' w2 hown' hgrow _
  have hlt : b < w1.heap.size := by
    rcases Nat.lt_or_ge b w1.heap.size with h' | h'
    · exact h'
    · simp [Array.getElem?_eq_none h'] at hbk
  have hb2 : w2.heap[b]? = some (.cells #[.pointer (some ⟨b, 0, none⟩), v] 213 (0, 0)) := by
    rw [hgrow.block b hlt (fun e => hne e.symm)]
    exact hbk
  have d0 : w2.cell? ⟨b, 0, none⟩ = some (.pointer (some ⟨b, 0, none⟩)) := by rw [Lib.cell_of_heap hb2]; rfl
  have d1 : w2.cell? ⟨b, 1, none⟩ = some v := by rw [Lib.cell_of_heap hb2]; rfl
  have f1 : w2.frozen? ⟨b, 1, none⟩ = false := Lib.frozen_of_heap hb2 1
  obtain ⟨ao, n', cap, rfl⟩ : ∃ ao n' cap, v' = .slice ao n' cap := by
    rcases hown'.2 with ⟨hv, _⟩ | ⟨g, cap, cur, hv, _⟩
    · exact ⟨_, _, _, hv⟩
    · exact ⟨_, _, _, hv⟩
  go_wp2
  go_ret2
  have e1 : Lib.byteCells l ++ Lib.strCells s = Lib.byteCells (l ++ s.data.toList) := by simp [Lib.byteCells, Lib.strCells]
  refine ⟨rfl, .inr ?_, ?_⟩
  · rw [← e1]
    exact Lib.BuilderAt.put (T := 213) (e := 5) hB hb2 (bs' := Lib.byteCells l ++ Lib.strCells s) (by simpa [Lib.strCells_length] using hown') (by decide)
  · exact (hb1.grown hgrow (by have := hb1.size; omega) (fun k hk => (hown.lt k hk).1)).setCell (p := ⟨b, 1, none⟩) hB _

/-! ### One group of digits -/
theorem len_one' {m : Nat} (h0 : 0 < m) (h : m < 4294967296) : len m = 1 := by rw [len_pos (by omega), show m / 4294967296 = 0 by omega, len_zero]
theorem dg_one {m : Nat} (h : m < 4294967296) : dg m 0 = m := by rw [dg_zero]; omega

set_option maxRecDepth 100000 in
set_option maxHeartbeats 1000000 in
theorem groups_small (A : Option Addr) (m c : Nat) (w : World) (hr : Rd w A 1 (dg m)) (hok : SlOk A 1 c) (h0 : 0 < m) (h : m < 100) :
    Calls Tryz.prog 230 #[.slice A 1 c] w (NatRes m w) := by
  have HR := Lib.hid hr; have HOK := Lib.hid hok; clear hr hok
  have hd0 := dg_one (m := m) (by omega)
  have HD0 := Lib.hid hd0; clear hd0
  have eor : bits BinOp.or IntKind.u64 0 (m : Int) = (m : Int) := by
    have := or_nat64 (a := 0) (b := m) (by decide) (by omega)
    rw [Nat.zero_or] at this; exact this
  have e1 : (m : Int) / 1000000000 = 0 := by omega
  have e2 : (m : Int) % 1000000000 = (m : Int) := by omega
  have e3 : (m : Int) % 4294967296 = (m : Int) := by omega
  go_enter Tryz.func230, Tryz.ntmps230
  go_wp2_with (go_at_call 208; refine (clone_any _ _ _ _ _ HR.out HOK.out (by omega)).mono ?_; rintro e w1 ⟨A1, c1, rfl, hon, hx⟩)
  have hON := Lib.hid hon
  have hXX := Lib.hid hx
  clear hon hx
  obtain ⟨rfl, hz, _⟩ | ⟨g, rfl, hrow⟩ := hON.out.cases
  · omega
  have hR0 := Lib.hid hrow
  have hg : Hid (w.heap.size ≤ g) := hrow.lt.1
  clear hrow hON
  go_loopw [3, 4] (fun s3 s4 wr => Hid (Ext w wr) ∧ ((s3 = .slice none 0 0 ∧ s4 = .slice (some ⟨g, 0, none⟩) 1 c1 ∧ Hid (Row wr w.heap.size g 1 c1 (dg m))) ∨ ∃ g2 c2, s3 = .slice (some ⟨g2, 0, none⟩) 1 c2 ∧ s4 = .slice (some ⟨g, 0, none⟩) 0 c1 ∧ Hid (Row wr w.heap.size g2 1 c2 (dg m)))) (fun _ s4 _ => slen s4)
  case atStart => exact ⟨hXX, .inl ⟨rfl, rfl, hR0⟩⟩
  case round =>
    clear hXX hR0
    obtain ⟨hX, ⟨rfl, rfl, hR⟩ | ⟨g2, c2, rfl, rfl, hR⟩⟩ := hrel
    · go_wp2
      go_loopw [5, 6] (fun s5 s6 wq => Hid (Ext w wq) ∧ ((s5 = U8 0 ∧ s6 = I 0 ∧ Hid (Row wq w.heap.size g 1 c1 (dg m))) ∨ (s5 = U8 m ∧ s6 = I (-1) ∧ Hid (Row wq w.heap.size g 1 c1 (upd (dg m) 0 0))))) (fun _ s6 _ => (intOf s6 + 1).toNat)
      case atStart => exact ⟨hX, .inl ⟨rfl, rfl, hR⟩⟩
      case round =>
        clear hX hR
        obtain ⟨hX, ⟨rfl, rfl, hR⟩ | ⟨rfl, rfl, hR⟩⟩ := hrel
        · have k1 := hR.out.cell (k := 0) (by omega)
          rw [HD0.out] at k1
          have f1 := hR.out.frozen 0
          go_wp2
          go_roundw
          case rel => exact ⟨Ext.set hX.out hg.out _, .inr ⟨by rw [e2], rfl, Row.set hR.out _ _⟩⟩
          case measure => simp [intOf]
        · have hv0 : valN (upd (dg m) 0 0) 1 = 0 := by rw [valN_upd]; simp [valN]
          have HV0 := Lib.hid hv0
          clear hv0
          go_wp2_with (first
            | (at_builtin; refine app1 rfl _ _ rfl w.heap.size none 0 0 (fun _ => 0) (by rfl) (On.nil _ _ _) _ 1 m (by rfl) (by go_simp) (by omega) (by have := hX.out.size; simp; omega) ?_; intro g3 c3 w4 hrow hg4 hat4 hlt4; have HR3 := Lib.hid hrow; have HX3 : Hid (Ext w w4) := ext_app (hX.out.trans (Ext.alloc _ _)) (On.nil _ _ (fun _ => 0)) hg4; have HG3 := Lib.hid ((hR.out.ext (Ext.alloc _ _)).grown hg4 (by simp [Value.ownBlock])); clear hrow hg4 hat4 hlt4)
            | (go_at_call 207; refine (trim_any _ _ _ _ _ HG3.out.rd (fun i hi => by unfold upd; split; decide; exact dg_lt _ _) HG3.out.cap.1 HG3.out.cap.2).mono ?_; rintro e w5 ⟨rfl, rfl⟩; rw [HV0.out, len_zero]))
          go_roundw
          case rel =>
            refine ⟨HX3.out, .inr ⟨g3, c3, rfl, rfl, ?_⟩⟩
            refine Row.congr (n := 1) HR3.out (fun i hi => ?_)
            obtain rfl : i = 0 := by omega
            rw [upd_same, HD0.out]
          case measure => simp [slen]
    · go_wp2
      go_ret
      have hl := len_one' (m := m) h0 (by omega)
      exact ⟨some ⟨g2, 0, none⟩, c2, by rw [hl]; rfl, by rw [hl]; exact hR.out, hX.out⟩

set_option maxHeartbeats 400000 in
theorem reverse_one (A : Option Addr) (c : Nat) (w : World) : Calls Tryz.prog 231 #[.slice A 1 c] w fun e w' => e = .returned (.tuple #[]) ∧ w' = w := by
  go_enter Tryz.func231, Tryz.ntmps231
  go_wp2
  go_loopw [2, 3] (fun s2 s3 wr => s2 = I 0 ∧ s3 = I 0 ∧ wr = w) (fun _ _ _ => 0)
  case atStart => exact ⟨rfl, rfl, rfl⟩
  case round =>
    obtain ⟨rfl, rfl, rfl⟩ := hrel
    go_wp2
    go_end0
    exact ⟨rfl, rfl⟩
end

/-! ### Txtb -/
section
open Go.RowKit Go.Shelf

def DecRes (m : Nat) (w : World) (e : Ending) (w' : World) : Prop := e = .returned (.string ⟨(Lib.decDigits m).toArray⟩) ∧ Ext w w'
theorem isB_new (w : World) : IsB w.heap.size w.heap.size [] (w.alloc (.cells #[.pointer none, .slice none 0 0] 213)) :=
  .inl ⟨Nat.le_refl _, .slice none 0 0, heap_alloc_new w _, World.ownsRow_nil _ _ _ _, by simp [Value.ownBlock]⟩
theorem ext_of_below {w w' w2 : World} {o : Obj} (h : Ext w (w'.alloc o)) (hb : Below w'.heap.size (w'.alloc o) w2) (hs : w.heap.size ≤ w'.heap.size) : Ext w w2 := Below.trans h (Below.mono hb hs)

set_option maxRecDepth 100000 in
set_option maxHeartbeats 1000000 in
theorem decimal_small (A : Option Addr) (m c : Nat) (w : World) (hr : Rd w A 1 (dg m)) (hok : SlOk A 1 c) (h0 : 0 < m) (h : m < 100) :
    Calls Tryz.prog 204 #[.slice A 1 c] w (DecRes m w) := by
  have HR := Lib.hid hr; have HOK := Lib.hid hok; clear hr hok
  have hl := len_one' (m := m) h0 (by omega)
  have HL := Lib.hid hl
  have hd0 := dg_one (m := m) (by omega)
  have HD0 := Lib.hid hd0; clear hd0 hl
  have hlen : (Lib.byteCells ([] : List UInt8)).length + (⟨(Lib.decDigits m).toArray⟩ : ByteArray).size ≤ 140737488355328 := by
    have h1 : ∀ k : Fin 100, (⟨(Lib.decDigits k.val).toArray⟩ : ByteArray).size ≤ 2 := by decide +kernel
    have := h1 ⟨m, h⟩
    simp only [Lib.byteCells, List.map_nil, List.length_nil] at *
    omega
  have HLN := Lib.hid hlen; clear hlen
  go_enter Tryz.func204, Tryz.ntmps204
  go_wp2_with (first
    | (go_at_call 230; refine (groups_small A m c _ HR.out HOK.out h0 h).mono ?_; rintro e w1 ⟨A1, c1, rfl, hon, hx⟩; rw [HL.out] at hon; rw [HL.out]; have HON := Lib.hid hon; have HX := Lib.hid hx; clear hon hx)
    | (go_at_call 231; refine (reverse_one _ _ _).mono ?_; rintro e w1' ⟨rfl, rfl⟩))
  obtain ⟨B, hB⟩ : ∃ B, w1'.heap.size = B := ⟨_, rfl⟩
  have HB0 : Hid (IsB B B [] (w1'.alloc (.cells #[.pointer none, .slice none 0 0] 213))) := hB ▸ isB_new w1'
  have HBB := Lib.hid hB
  rw [hB]
  clear hB
  go_loopw [17] (fun s17 wr => Hid (Ext w1' wr) ∧ Hid (B < wr.heap.size) ∧ ((s17 = I 0 ∧ Hid (IsB B B [] wr)) ∨ (s17 = I 1 ∧ Hid (IsB B B (Lib.decDigits m) wr)))) (fun s17 _ => (2 - intOf s17).toNat)
  case atStart => exact ⟨Ext.alloc _ _, by show _ < _; rw [← HBB.out]; simp, .inl ⟨rfl, HB0.out⟩⟩
  case round =>
    clear HB0
    obtain ⟨hX, hlt, ⟨rfl, hI⟩ | ⟨rfl, hI⟩⟩ := hrel
    · obtain ⟨b2, o2, rfl, hb2, c2⟩ := (HON.out.rd.ext hX.out).at_ (k := 0) (by omega)
      rw [HD0.out, Nat.add_zero] at c2
      have HLT := Lib.hid hlt.out
      go_wp2_with (first
        | (go_at_call 205; refine (Tryz.strconv_Itoa_small m h _).mono ?_; rintro e w5 ⟨rfl, rfl⟩)
        | (go_at_call 232; refine (write_any B B [] _ _ hI.out HLN.out (Nat.le_of_lt HLT.out)).mono ?_; rintro e w6 ⟨rfl, hI6, hb6⟩; have HI6 := Lib.hid hI6; have HB6 := Lib.hid hb6; clear hI6 hb6))
      go_roundw
      case rel =>
        have h1 : Ext w1' w6 := Below.trans hX.out (Below.mono HB6.out (by rw [HBB.out]; exact Nat.le_refl _))
        exact ⟨h1, Nat.lt_of_lt_of_le HLT.out HB6.out.size, .inr ⟨rfl, by show IsB _ _ _ _; simpa using HI6.out⟩⟩
      case measure => simp [intOf]
    · have HLT := Lib.hid hlt.out
      go_wp2_with (go_at_call 234; refine (Tryz.Builder_String_any B B _ _ hI.out (Nat.le_of_lt HLT.out)).mono ?_; rintro e w6 ⟨rfl, hb6⟩; have HB6 := Lib.hid hb6; clear hb6)
      go_ret
      exact ⟨rfl, HX.out.trans (Below.trans hX.out (Below.mono HB6.out (by rw [HBB.out]; exact Nat.le_refl _)))⟩

def digB (x : Nat) : ByteArray := ⟨(Lib.decDigits x).toArray⟩
def signB (neg : Bool) (s : ByteArray) : ByteArray := if neg = true then ⟨#[45]⟩ ++ s else s
/-- The text of a number of one group. -/
def txtS (d : DV) : ByteArray := if d.den = 0 then signB d.neg (digB d.m) else signB d.neg (digB d.m) ++ (⟨#[47, 50, 94]⟩ ++ digB d.den)
theorem digs_le {x : Nat} (h : x < 100) : (Lib.decDigits x).length ≤ 2 := by
  have h1 : ∀ k : Fin 100, (Lib.decDigits k.val).length ≤ 2 := by decide +kernel
  exact h1 ⟨x, h⟩

set_option maxRecDepth 100000 in
set_option maxHeartbeats 1000000 in
theorem text_small {w : World} {neg : Bool} {A A' : Option Addr} {n c c' : Nat} {den : Int} {d : DV} (h : Dy w neg A n c den d A' c') (h0 : 0 < d.m) (h1 : d.m < 100) (h2 : d.den < 100) :
    Calls Tryz.prog 150 #[dv neg A n c den] w fun e w' => e = .returned (.string (txtS d)) ∧ Ext w w' := by
  have H := Lib.hid h; clear h
  have hl := len_one' (m := d.m) h0 (by omega)
  have HN : Hid (∀ w', Ext w w' → Calls Tryz.prog 106 #[dv neg A n c den] w' (NumRes (dv d.neg A' 1 c' d.den) w')) := by have := H.out.num; rw [hl] at this; exact this
  have HDC : Hid (∀ w', Ext w w' → Calls Tryz.prog 204 #[.slice A' 1 c'] w' (DecRes d.m w')) := fun w' e => decimal_small A' d.m c' w' (by have := H.out.rd; rw [hl] at this; exact this.ext e) (by have := H.out.sl; rw [hl] at this; exact this) h0 h1
  clear hl
  have l1 := digs_le h1
  have l2 := digs_le h2
  by_cases hd : d.den = 0
  · have hd' : ¬ (0 : Int) < (d.den : Int) := by omega
    cases hn : d.neg with
    | false =>
      have HR : Hid (txtS d = digB d.m) := by show _ = _; unfold txtS signB; rw [if_pos hd, hn]; rfl
      rw [HR.out]
      rw [hn] at HN
      clear HR
      go_enter Tryz.func150, Tryz.ntmps150
      go_wp2_with (first
        | (go_at_call 106; refine (HN.out _ (Ext.alloc _ _)).mono ?_; rintro e w1 ⟨rfl, hx⟩; obtain ⟨⟨k0, k1, k2⟩, hz, hx1⟩ := one_box hx; have HX := Lib.hid hx1; obtain ⟨hc, hf⟩ := hx.old; clear hx hx1)
        | (go_at_call 204; refine (HDC.out _ (ext_set3 HX.out (Nat.le_refl _) _ _ _)).mono ?_; rintro e w2 ⟨rfl, hx⟩; have hk := hx.old.1; have HX2 := Lib.hid ((ext_set3 HX.out (Nat.le_refl _) _ _ _).trans hx); clear hx)
        | (go_at_call 205; refine (Tryz.strconv_Itoa_small d.den h2 _).mono ?_; rintro e w5 ⟨rfl, rfl⟩))
      go_ret
      exact ⟨rfl, HX2.out⟩
    | true =>
      have HR : Hid (txtS d = ⟨#[45]⟩ ++ digB d.m) := by show _ = _; unfold txtS signB; rw [if_pos hd, hn]; rfl
      rw [HR.out]
      rw [hn] at HN
      clear HR
      go_enter Tryz.func150, Tryz.ntmps150
      go_wp2_with (first
        | (go_at_call 106; refine (HN.out _ (Ext.alloc _ _)).mono ?_; rintro e w1 ⟨rfl, hx⟩; obtain ⟨⟨k0, k1, k2⟩, hz, hx1⟩ := one_box hx; have HX := Lib.hid hx1; obtain ⟨hc, hf⟩ := hx.old; clear hx hx1)
        | (go_at_call 204; refine (HDC.out _ (ext_set3 HX.out (Nat.le_refl _) _ _ _)).mono ?_; rintro e w2 ⟨rfl, hx⟩; have hk := hx.old.1; have HX2 := Lib.hid ((ext_set3 HX.out (Nat.le_refl _) _ _ _).trans hx); clear hx)
        | (go_at_call 205; refine (Tryz.strconv_Itoa_small d.den h2 _).mono ?_; rintro e w5 ⟨rfl, rfl⟩))
      go_ret
      exact ⟨rfl, HX2.out⟩
  · have hd' : (0 : Int) < (d.den : Int) := by omega
    cases hn : d.neg with
    | false =>
      have HR : Hid (txtS d = digB d.m ++ (⟨#[47, 50, 94]⟩ ++ digB d.den)) := by show _ = _; unfold txtS signB; rw [if_neg hd, hn]; rfl
      rw [HR.out]
      rw [hn] at HN
      clear HR
      go_enter Tryz.func150, Tryz.ntmps150
      go_wp2_with (first
        | (go_at_call 106; refine (HN.out _ (Ext.alloc _ _)).mono ?_; rintro e w1 ⟨rfl, hx⟩; obtain ⟨⟨k0, k1, k2⟩, hz, hx1⟩ := one_box hx; have HX := Lib.hid hx1; obtain ⟨hc, hf⟩ := hx.old; clear hx hx1)
        | (go_at_call 204; refine (HDC.out _ (ext_set3 HX.out (Nat.le_refl _) _ _ _)).mono ?_; rintro e w2 ⟨rfl, hx⟩; have hk := hx.old.1; have HX2 := Lib.hid ((ext_set3 HX.out (Nat.le_refl _) _ _ _).trans hx); clear hx)
        | (go_at_call 205; refine (Tryz.strconv_Itoa_small d.den h2 _).mono ?_; rintro e w5 ⟨rfl, rfl⟩))
      go_ret
      exact ⟨rfl, HX2.out⟩
    | true =>
      have HR : Hid (txtS d = (⟨#[45]⟩ ++ digB d.m) ++ (⟨#[47, 50, 94]⟩ ++ digB d.den)) := by show _ = _; unfold txtS signB; rw [if_neg hd, hn]; rfl
      rw [HR.out]
      rw [hn] at HN
      clear HR
      go_enter Tryz.func150, Tryz.ntmps150
      go_wp2_with (first
        | (go_at_call 106; refine (HN.out _ (Ext.alloc _ _)).mono ?_; rintro e w1 ⟨rfl, hx⟩; obtain ⟨⟨k0, k1, k2⟩, hz, hx1⟩ := one_box hx; have HX := Lib.hid hx1; obtain ⟨hc, hf⟩ := hx.old; clear hx hx1)
        | (go_at_call 204; refine (HDC.out _ (ext_set3 HX.out (Nat.le_refl _) _ _ _)).mono ?_; rintro e w2 ⟨rfl, hx⟩; have hk := hx.old.1; have HX2 := Lib.hid ((ext_set3 HX.out (Nat.le_refl _) _ _ _).trans hx); clear hx)
        | (go_at_call 205; refine (Tryz.strconv_Itoa_small d.den h2 _).mono ?_; rintro e w5 ⟨rfl, rfl⟩))
      go_ret
      exact ⟨rfl, HX2.out⟩
end

/-! ### Awk -/
section
open Go.RowKit

theorem aw1 : ofI 6 2 = ⟨false, 3, 1⟩ := by rfl
theorem aw2 : negD ⟨false, 3, 1⟩ = ⟨true, 3, 1⟩ := by rfl
theorem aw3 : floorD ⟨true, 3, 1⟩ 0 = ⟨true, 2, 0⟩ := by rfl
theorem aw4 : ofI (-1) 0 = ⟨true, 1, 0⟩ := by rfl
theorem aw5 : ofI 3 0 = ⟨false, 3, 0⟩ := by rfl
theorem aw6 : quoD ⟨true, 1, 0⟩ ⟨false, 3, 0⟩ 4 = ⟨true, 3, 3⟩ := by rfl
theorem aw7 : txtS ⟨false, 3, 1⟩ = ⟨#[51, 47, 50, 94, 49]⟩ := by decide +kernel
theorem aw8 : txtS ⟨true, 2, 0⟩ = ⟨#[45, 50]⟩ := by decide +kernel
theorem aw9 : txtS ⟨true, 3, 3⟩ = ⟨#[45, 51, 47, 50, 94, 51]⟩ := by decide +kernel
theorem len_small {m : Nat} (h : m < 100) : len m ≤ 16777216 := by
  have := len_le (m := m) (n := 1) (by show m < 4294967296 ^ 1; omega)
  omega
end

end Go.Proofs.YtcdkkohklhmpgaaGreatDoor
