/- Texts: writing into a strings.Builder. -/
import Derived.Test.YtbghikgagejbiaaDoorNatk
import Derived.Laws.Externs
namespace Go.Proofs.YtbghikgagejbiaaDoor
open Go.RowKit Go.Shelf

theorem infoB : (Tryd.prog.info? 87).map (·.size) = some 2 := by kernel_rfl
theorem liesB : liesAt Tryd.prog Tryd.prog.depth 87 (2 / Tryd.prog.cellsOf 87) 0 87 1 = true := by kernel_rfl
theorem infoBy : (Tryd.prog.info? 5).map (fun i => (i.zero, i.size, i.bytes)) = some (some (.int .u8 0), 1, 1) := by kernel_rfl

set_option maxRecDepth 100000 in
set_option maxHeartbeats 1000000 in
theorem check_used (b : Nat) (w : World) (h0 : w.cell? ⟨b, 0, none⟩ = some (.pointer (some ⟨b, 0, none⟩))) :
    Calls Tryd.prog 98 #[.pointer (some ⟨b, 0, none⟩)] w fun e w' => e = .returned (.tuple #[]) ∧ w' = w := by
  obtain ⟨j, hj, _⟩ := Option.map_eq_some_iff.1 infoB
  go_enter Tryd.func98, Tryd.ntmps98
  go_wp2
  rw [Lib.run_neq_ptr_same w _ Tryd.underlying84 hj]
  go_wp2
  go_end0
  exact ⟨rfl, rfl⟩

set_option maxRecDepth 100000 in
set_option maxHeartbeats 1000000 in
theorem check_fresh (b : Nat) (w : World) (h0 : w.cell? ⟨b, 0, none⟩ = some (.pointer none)) (hsh : w.shape? b = some (87, 2)) (hfz : w.frozen? ⟨b, 0, none⟩ = false) :
    Calls Tryd.prog 98 #[.pointer (some ⟨b, 0, none⟩)] w fun e w' => e = .returned (.tuple #[]) ∧ w' = w.setCell ⟨b, 0, none⟩ (.pointer (some ⟨b, 0, none⟩)) := by
  obtain ⟨j, hj, hjs⟩ := Option.map_eq_some_iff.1 infoB
  go_enter Tryd.func98, Tryd.ntmps98
  go_wp2
  rw [Lib.run_to_unsafe w ⟨b, 0, none⟩ Tryd.underlying84 Tryd.underlying101 hj (by rw [hjs]; decide) hsh (Nat.zero_lt_succ 1)]
  simp only [Result.andThen]
  rw [Oper.upon_value]
  go_wp2
  rw [run_callFunc_extern Tryd.func104 (by kernel_rfl) (by kernel_rfl) (by kernel_rfl) (e := Extern.AbiNoEscape.same) (by kernel_rfl)]
  rw [Lib.run_noEscape]
  simp only [Result.andThen]
  rw [Oper.upon_value]
  go_wp2
  rw [Lib.run_from_unsafe w ⟨b, 0, none⟩ Tryd.underlying101 Tryd.underlying84 hj hsh liesB]
  simp only [Result.andThen]
  rw [Oper.upon_value]
  go_wp2
  go_end0
  exact ⟨rfl, rfl⟩

abbrev IsB (B b : Nat) (l : List UInt8) (w : World) : Prop := Lib.IsBuilder 87 5 B b (Lib.byteCells l) w
def WrRes (B b : Nat) (l : List UInt8) (s : ByteArray) (w : World) (e : Ending) (w' : World) : Prop := e = .returned (.tuple #[I s.size, .nilIface]) ∧ IsB B b (l ++ s.data.toList) w' ∧ Below B w w'
theorem check_any (B b : Nat) (bs : List Value) (w : World) (h : Lib.IsBuilder 87 5 B b bs w) :
    Calls Tryd.prog 98 #[.pointer (some ⟨b, 0, none⟩)] w fun e w' => e = .returned (.tuple #[]) ∧ Lib.BuilderAt 87 5 B b (.pointer (some ⟨b, 0, none⟩)) bs w' ∧ Below B w w' := by
  rcases h with h | h
  · refine (check_fresh b w h.cell0 h.shape h.frozen0).mono ?_
    rintro e w' ⟨rfl, rfl⟩
    exact ⟨rfl, h.used _, (Below.refl B w).setCell (p := ⟨b, 0, none⟩) h.1 _⟩
  · refine (check_used b w h.cell0).mono ?_
    rintro e w' ⟨rfl, rfl⟩
    exact ⟨rfl, h, Below.refl B _⟩

set_option maxRecDepth 100000 in
set_option maxHeartbeats 1000000 in
theorem write_any (B b : Nat) (l : List UInt8) (s : ByteArray) (w : World) (h : IsB B b l w) (hlen : (Lib.byteCells l).length + s.size ≤ 140737488355328) (hBw : B ≤ w.heap.size) :
    Calls Tryd.prog 90 #[.pointer (some ⟨b, 0, none⟩), .string s] w (WrRes B b l s w) := by
  obtain ⟨i0, hi, hz0, hz1, hz2⟩ := info_parts infoBy
  have HL := Lib.hid hlen; clear hlen
  go_enter Tryd.func90, Tryd.ntmps90
  go_wp2_with (go_at_call 98; refine (check_any B b _ _ h).mono ?_)
  rintro e w1 ⟨rfl, h1, hb1⟩
  obtain ⟨hB, v, hbk, hown, hne⟩ := h1
  have c0 : w1.cell? ⟨b, 0, none⟩ = some (.pointer (some ⟨b, 0, none⟩)) := by rw [Lib.cell_of_heap hbk]; rfl
  have c1 : w1.cell? ⟨b, 1, none⟩ = some v := by rw [Lib.cell_of_heap hbk]; rfl
  go_wp2_with (at_builtin; refine Lib.wpList_append_own_string _ rfl _ _ 85 9 rfl B 5 i0 Tryd.underlying85 Tryd.underlying9 hi hz0 hz1 hz2 _ _ _ rfl hown s rfl ?c3 ?c4 ?c5 ?_)
  case c3 => have := HL.out; unfold maxLen; omega
  case c4 => have := HL.out; omega
  case c5 => have := hb1.size; omega
  intro v' w2 hown' hgrow _
  have hlt : b < w1.heap.size := by
    rcases Nat.lt_or_ge b w1.heap.size with h' | h'
    · exact h'
    · simp [Array.getElem?_eq_none h'] at hbk
  have hb2 : w2.heap[b]? = some (.cells #[.pointer (some ⟨b, 0, none⟩), v] 87 (0, 0)) := by
    rw [hgrow.block b hlt (fun e => hne e.symm)]
    exact hbk
  have d0 : w2.cell? ⟨b, 0, none⟩ = some (.pointer (some ⟨b, 0, none⟩)) := by rw [Lib.cell_of_heap hb2]; rfl
  have d1 : w2.cell? ⟨b, 1, none⟩ = some v := by rw [Lib.cell_of_heap hb2]; rfl
  have f1 : w2.frozen? ⟨b, 1, none⟩ = false := Lib.frozen_of_heap hb2 1
  obtain ⟨ao, n', cap, rfl⟩ : ∃ ao n' cap, v' = .slice ao n' cap := by
    rcases hown'.2 with ⟨hv, _⟩ | ⟨g, cap, cur, hv, _⟩
    · exact ⟨_, _, _, hv⟩
    · exact ⟨_, _, _, hv⟩
  go_wp2
  go_ret2
  have e1 : Lib.byteCells l ++ Lib.strCells s = Lib.byteCells (l ++ s.data.toList) := by simp [Lib.byteCells, Lib.strCells]
  refine ⟨rfl, .inr ?_, ?_⟩
  · rw [← e1]
    exact Lib.BuilderAt.put (T := 87) (e := 5) hB hb2 (bs' := Lib.byteCells l ++ Lib.strCells s) (by simpa [Lib.strCells_length] using hown') (by decide)
  · exact (hb1.grown hgrow (by have := hb1.size; omega) (fun k hk => (hown.lt k hk).1)).setCell (p := ⟨b, 1, none⟩) hB _

/-! ### One group of digits -/
theorem len_one' {m : Nat} (h0 : 0 < m) (h : m < 4294967296) : len m = 1 := by rw [len_pos (by omega), show m / 4294967296 = 0 by omega, len_zero]
theorem dg_one {m : Nat} (h : m < 4294967296) : dg m 0 = m := by rw [dg_zero]; omega

set_option maxRecDepth 100000 in
set_option maxHeartbeats 1000000 in
theorem groups_small (A : Option Addr) (m c : Nat) (w : World) (hr : Rd w A 1 (dg m)) (hok : SlOk A 1 c) (h0 : 0 < m) (h : m < 100) :
    Calls Tryd.prog 88 #[.slice A 1 c] w (NatRes m w) := by
  have HR := Lib.hid hr; have HOK := Lib.hid hok; clear hr hok
  have hd0 := dg_one (m := m) (by omega)
  have HD0 := Lib.hid hd0; clear hd0
  have eor : bits BinOp.or IntKind.u64 0 (m : Int) = (m : Int) := by
    have := or_nat64 (a := 0) (b := m) (by decide) (by omega)
    rw [Nat.zero_or] at this; exact this
  have e1 : (m : Int) / 1000000000 = 0 := by omega
  have e2 : (m : Int) % 1000000000 = (m : Int) := by omega
  have e3 : (m : Int) % 4294967296 = (m : Int) := by omega
  go_enter Tryd.func88, Tryd.ntmps88
  go_wp2_with (go_at_call 78; refine (clone_any _ _ _ _ _ HR.out HOK.out (by omega)).mono ?_; rintro e w1 ⟨A1, c1, rfl, hon, hx⟩)
  have hON := Lib.hid hon
  have hXX := Lib.hid hx
  clear hon hx
  obtain ⟨rfl, hz, _⟩ | ⟨g, rfl, hrow⟩ := hON.out.cases
  · omega
  have hR0 := Lib.hid hrow
  have hg : Hid (w.heap.size ≤ g) := hrow.lt.1
  clear hrow hON
  go_loopw [3, 4] (fun s3 s4 wr => Hid (Ext w wr) ∧ ((s3 = .slice none 0 0 ∧ s4 = .slice (some ⟨g, 0, none⟩) 1 c1 ∧ Hid (Row wr w.heap.size g 1 c1 (dg m))) ∨ ∃ g2 c2, s3 = .slice (some ⟨g2, 0, none⟩) 1 c2 ∧ s4 = .slice (some ⟨g, 0, none⟩) 0 c1 ∧ Hid (Row wr w.heap.size g2 1 c2 (dg m)))) (fun _ s4 _ => slen s4)
  case atStart => exact ⟨hXX, .inl ⟨rfl, rfl, hR0⟩⟩
  case round =>
    clear hXX hR0
    obtain ⟨hX, ⟨rfl, rfl, hR⟩ | ⟨g2, c2, rfl, rfl, hR⟩⟩ := hrel
    · go_wp2
      go_loopw [5, 6] (fun s5 s6 wq => Hid (Ext w wq) ∧ ((s5 = U8 0 ∧ s6 = I 0 ∧ Hid (Row wq w.heap.size g 1 c1 (dg m))) ∨ (s5 = U8 m ∧ s6 = I (-1) ∧ Hid (Row wq w.heap.size g 1 c1 (upd (dg m) 0 0))))) (fun _ s6 _ => (intOf s6 + 1).toNat)
      case atStart => exact ⟨hX, .inl ⟨rfl, rfl, hR⟩⟩
      case round =>
        clear hX hR
        obtain ⟨hX, ⟨rfl, rfl, hR⟩ | ⟨rfl, rfl, hR⟩⟩ := hrel
        · have k1 := hR.out.cell (k := 0) (by omega)
          rw [HD0.out] at k1
          have f1 := hR.out.frozen 0
          go_wp2
          go_roundw
          case rel => exact ⟨Ext.set hX.out hg.out _, .inr ⟨by rw [e2], rfl, Row.set hR.out _ _⟩⟩
          case measure => simp [intOf]
        · have hv0 : valN (upd (dg m) 0 0) 1 = 0 := by rw [valN_upd]; simp [valN]
          have HV0 := Lib.hid hv0
          clear hv0
          go_wp2_with (first
            | (at_builtin; refine app1 rfl _ _ rfl w.heap.size none 0 0 (fun _ => 0) (by rfl) (On.nil _ _ _) _ 1 m (by rfl) (by go_simp) (by omega) (by have := hX.out.size; simp; omega) ?_; intro g3 c3 w4 hrow hg4 hat4 hlt4; have HR3 := Lib.hid hrow; have HX3 : Hid (Ext w w4) := ext_app (hX.out.trans (Ext.alloc _ _)) (On.nil _ _ (fun _ => 0)) hg4; have HG3 := Lib.hid ((hR.out.ext (Ext.alloc _ _)).grown hg4 (by simp [Value.ownBlock])); clear hrow hg4 hat4 hlt4)
            | (go_at_call 79; refine (trim_any _ _ _ _ _ HG3.out.rd (fun i hi => by unfold upd; split; decide; exact dg_lt _ _) HG3.out.cap.1 HG3.out.cap.2).mono ?_; rintro e w5 ⟨rfl, rfl⟩; rw [HV0.out, len_zero]))
          go_roundw
          case rel =>
            refine ⟨HX3.out, .inr ⟨g3, c3, rfl, rfl, ?_⟩⟩
            refine Row.congr (n := 1) HR3.out (fun i hi => ?_)
            obtain rfl : i = 0 := by omega
            rw [upd_same, HD0.out]
          case measure => simp [slen]
    · go_wp2
      go_ret
      have hl := len_one' (m := m) h0 (by omega)
      exact ⟨some ⟨g2, 0, none⟩, c2, by rw [hl]; rfl, by rw [hl]; exact hR.out, hX.out⟩

set_option maxHeartbeats 400000 in
theorem reverse_one (A : Option Addr) (c : Nat) (w : World) : Calls Tryd.prog 89 #[.slice A 1 c] w fun e w' => e = .returned (.tuple #[]) ∧ w' = w := by
  go_enter Tryd.func89, Tryd.ntmps89
  go_wp2
  go_loopw [2, 3] (fun s2 s3 wr => s2 = I 0 ∧ s3 = I 0 ∧ wr = w) (fun _ _ _ => 0)
  case atStart => exact ⟨rfl, rfl, rfl⟩
  case round =>
    obtain ⟨rfl, rfl, rfl⟩ := hrel
    go_wp2
    go_end0
    exact ⟨rfl, rfl⟩

end Go.Proofs.YtbghikgagejbiaaDoor
