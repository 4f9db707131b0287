/- Texts of numbers of one group of digits. -/
import Derived.Test.YtbghikgagejbiaaDoorTxt
import Derived.Test.YtbghikgagejbiaaDoorDyh
namespace Go.Proofs.YtbghikgagejbiaaDoor
open Go.RowKit Go.Shelf

def DecRes (m : Nat) (w : World) (e : Ending) (w' : World) : Prop := e = .returned (.string ⟨(Lib.decDigits m).toArray⟩) ∧ Ext w w'
theorem isB_new (w : World) : IsB w.heap.size w.heap.size [] (w.alloc (.cells #[.pointer none, .slice none 0 0] 87)) :=
  .inl ⟨Nat.le_refl _, .slice none 0 0, heap_alloc_new w _, World.ownsRow_nil _ _ _ _, by simp [Value.ownBlock]⟩
theorem ext_of_below {w w' w2 : World} {o : Obj} (h : Ext w (w'.alloc o)) (hb : Below w'.heap.size (w'.alloc o) w2) (hs : w.heap.size ≤ w'.heap.size) : Ext w w2 := Below.trans h (Below.mono hb hs)

set_option maxRecDepth 100000 in
set_option maxHeartbeats 1000000 in
theorem decimal_small (A : Option Addr) (m c : Nat) (w : World) (hr : Rd w A 1 (dg m)) (hok : SlOk A 1 c) (h0 : 0 < m) (h : m < 100) :
    Calls Tryd.prog 67 #[.slice A 1 c] w (DecRes m w) := by
  have HR := Lib.hid hr; have HOK := Lib.hid hok; clear hr hok
  have hl := len_one' (m := m) h0 (by omega)
  have HL := Lib.hid hl
  have hd0 := dg_one (m := m) (by omega)
  have HD0 := Lib.hid hd0; clear hd0 hl
  have hlen : (Lib.byteCells ([] : List UInt8)).length + (⟨(Lib.decDigits m).toArray⟩ : ByteArray).size ≤ 140737488355328 := by
    have h1 : ∀ k : Fin 100, (⟨(Lib.decDigits k.val).toArray⟩ : ByteArray).size ≤ 2 := by decide +kernel
    have := h1 ⟨m, h⟩
    simp only [Lib.byteCells, List.map_nil, List.length_nil] at *
    omega
  have HLN := Lib.hid hlen; clear hlen
  go_enter Tryd.func67, Tryd.ntmps67
  go_wp2_with (first
    | (go_at_call 88; refine (groups_small A m c _ HR.out HOK.out h0 h).mono ?_; rintro e w1 ⟨A1, c1, rfl, hon, hx⟩; rw [HL.out] at hon; rw [HL.out]; have HON := Lib.hid hon; have HX := Lib.hid hx; clear hon hx)
    | (go_at_call 89; refine (reverse_one _ _ _).mono ?_; rintro e w1' ⟨rfl, rfl⟩))
  obtain ⟨B, hB⟩ : ∃ B, w1'.heap.size = B := ⟨_, rfl⟩
  have HB0 : Hid (IsB B B [] (w1'.alloc (.cells #[.pointer none, .slice none 0 0] 87))) := hB ▸ isB_new w1'
  have HBB := Lib.hid hB
  rw [hB]
  clear hB
  go_loopw [17] (fun s17 wr => Hid (Ext w1' wr) ∧ Hid (B < wr.heap.size) ∧ ((s17 = I 0 ∧ Hid (IsB B B [] wr)) ∨ (s17 = I 1 ∧ Hid (IsB B B (Lib.decDigits m) wr)))) (fun s17 _ => (2 - intOf s17).toNat)
  case atStart => exact ⟨Ext.alloc _ _, by show _ < _; rw [← HBB.out]; simp, .inl ⟨rfl, HB0.out⟩⟩
  case round =>
    clear HB0
    obtain ⟨hX, hlt, ⟨rfl, hI⟩ | ⟨rfl, hI⟩⟩ := hrel
    · obtain ⟨b2, o2, rfl, hb2, c2⟩ := (HON.out.rd.ext hX.out).at_ (k := 0) (by omega)
      rw [HD0.out, Nat.add_zero] at c2
      have HLT := Lib.hid hlt.out
      go_wp2_with (first
        | (go_at_call 68; refine (Tryd.strconv_Itoa_small m h _).mono ?_; rintro e w5 ⟨rfl, rfl⟩)
        | (go_at_call 90; refine (write_any B B [] _ _ hI.out HLN.out (Nat.le_of_lt HLT.out)).mono ?_; rintro e w6 ⟨rfl, hI6, hb6⟩; have HI6 := Lib.hid hI6; have HB6 := Lib.hid hb6; clear hI6 hb6))
      go_roundw
      case rel =>
        have h1 : Ext w1' w6 := Below.trans hX.out (Below.mono HB6.out (by rw [HBB.out]; exact Nat.le_refl _))
        exact ⟨h1, Nat.lt_of_lt_of_le HLT.out HB6.out.size, .inr ⟨rfl, by show IsB _ _ _ _; simpa using HI6.out⟩⟩
      case measure => simp [intOf]
    · have HLT := Lib.hid hlt.out
      go_wp2_with (go_at_call 92; refine (Tryd.Builder_String_any B B _ _ hI.out (Nat.le_of_lt HLT.out)).mono ?_; rintro e w6 ⟨rfl, hb6⟩; have HB6 := Lib.hid hb6; clear hb6)
      go_ret
      exact ⟨rfl, HX.out.trans (Below.trans hX.out (Below.mono HB6.out (by rw [HBB.out]; exact Nat.le_refl _)))⟩

def digB (x : Nat) : ByteArray := ⟨(Lib.decDigits x).toArray⟩
def signB (neg : Bool) (s : ByteArray) : ByteArray := if neg = true then ⟨#[45]⟩ ++ s else s
/-- The text of a number of one group. -/
def txtS (d : DV) : ByteArray := if d.den = 0 then signB d.neg (digB d.m) else signB d.neg (digB d.m) ++ (⟨#[47, 50, 94]⟩ ++ digB d.den)
theorem digs_le {x : Nat} (h : x < 100) : (Lib.decDigits x).length ≤ 2 := by
  have h1 : ∀ k : Fin 100, (Lib.decDigits k.val).length ≤ 2 := by decide +kernel
  exact h1 ⟨x, h⟩

set_option maxRecDepth 100000 in
set_option maxHeartbeats 1000000 in
theorem text_small {w : World} {neg : Bool} {A A' : Option Addr} {n c c' : Nat} {den : Int} {d : DV} (h : Dy w neg A n c den d A' c') (h0 : 0 < d.m) (h1 : d.m < 100) (h2 : d.den < 100) :
    Calls Tryd.prog 32 #[dv neg A n c den] w fun e w' => e = .returned (.string (txtS d)) ∧ Ext w w' := by
  have H := Lib.hid h; clear h
  have hl := len_one' (m := d.m) h0 (by omega)
  have HN : Hid (∀ w', Ext w w' → Calls Tryd.prog 54 #[dv neg A n c den] w' (NumRes (dv d.neg A' 1 c' d.den) w')) := by have := H.out.num; rw [hl] at this; exact this
  have HDC : Hid (∀ w', Ext w w' → Calls Tryd.prog 67 #[.slice A' 1 c'] w' (DecRes d.m w')) := fun w' e => decimal_small A' d.m c' w' (by have := H.out.rd; rw [hl] at this; exact this.ext e) (by have := H.out.sl; rw [hl] at this; exact this) h0 h1
  clear hl
  have l1 := digs_le h1
  have l2 := digs_le h2
  by_cases hd : d.den = 0
  · have hd' : ¬ (0 : Int) < (d.den : Int) := by omega
    cases hn : d.neg with
    | false =>
      have HR : Hid (txtS d = digB d.m) := by show _ = _; unfold txtS signB; rw [if_pos hd, hn]; rfl
      rw [HR.out]
      rw [hn] at HN
      clear HR
      go_enter Tryd.func32, Tryd.ntmps32
      go_wp2_with (first
        | (go_at_call 54; refine (HN.out _ (Ext.alloc _ _)).mono ?_; rintro e w1 ⟨rfl, hx⟩; obtain ⟨⟨k0, k1, k2⟩, hz, hx1⟩ := one_box hx; have HX := Lib.hid hx1; obtain ⟨hc, hf⟩ := hx.old; clear hx hx1)
        | (go_at_call 67; refine (HDC.out _ (ext_set3 HX.out (Nat.le_refl _) _ _ _)).mono ?_; rintro e w2 ⟨rfl, hx⟩; have hk := hx.old.1; have HX2 := Lib.hid ((ext_set3 HX.out (Nat.le_refl _) _ _ _).trans hx); clear hx)
        | (go_at_call 68; refine (Tryd.strconv_Itoa_small d.den h2 _).mono ?_; rintro e w5 ⟨rfl, rfl⟩))
      go_ret
      exact ⟨rfl, HX2.out⟩
    | true =>
      have HR : Hid (txtS d = ⟨#[45]⟩ ++ digB d.m) := by show _ = _; unfold txtS signB; rw [if_pos hd, hn]; rfl
      rw [HR.out]
      rw [hn] at HN
      clear HR
      go_enter Tryd.func32, Tryd.ntmps32
      go_wp2_with (first
        | (go_at_call 54; refine (HN.out _ (Ext.alloc _ _)).mono ?_; rintro e w1 ⟨rfl, hx⟩; obtain ⟨⟨k0, k1, k2⟩, hz, hx1⟩ := one_box hx; have HX := Lib.hid hx1; obtain ⟨hc, hf⟩ := hx.old; clear hx hx1)
        | (go_at_call 67; refine (HDC.out _ (ext_set3 HX.out (Nat.le_refl _) _ _ _)).mono ?_; rintro e w2 ⟨rfl, hx⟩; have hk := hx.old.1; have HX2 := Lib.hid ((ext_set3 HX.out (Nat.le_refl _) _ _ _).trans hx); clear hx)
        | (go_at_call 68; refine (Tryd.strconv_Itoa_small d.den h2 _).mono ?_; rintro e w5 ⟨rfl, rfl⟩))
      go_ret
      exact ⟨rfl, HX2.out⟩
  · have hd' : (0 : Int) < (d.den : Int) := by omega
    cases hn : d.neg with
    | false =>
      have HR : Hid (txtS d = digB d.m ++ (⟨#[47, 50, 94]⟩ ++ digB d.den)) := by show _ = _; unfold txtS signB; rw [if_neg hd, hn]; rfl
      rw [HR.out]
      rw [hn] at HN
      clear HR
      go_enter Tryd.func32, Tryd.ntmps32
      go_wp2_with (first
        | (go_at_call 54; refine (HN.out _ (Ext.alloc _ _)).mono ?_; rintro e w1 ⟨rfl, hx⟩; obtain ⟨⟨k0, k1, k2⟩, hz, hx1⟩ := one_box hx; have HX := Lib.hid hx1; obtain ⟨hc, hf⟩ := hx.old; clear hx hx1)
        | (go_at_call 67; refine (HDC.out _ (ext_set3 HX.out (Nat.le_refl _) _ _ _)).mono ?_; rintro e w2 ⟨rfl, hx⟩; have hk := hx.old.1; have HX2 := Lib.hid ((ext_set3 HX.out (Nat.le_refl _) _ _ _).trans hx); clear hx)
        | (go_at_call 68; refine (Tryd.strconv_Itoa_small d.den h2 _).mono ?_; rintro e w5 ⟨rfl, rfl⟩))
      go_ret
      exact ⟨rfl, HX2.out⟩
    | true =>
      have HR : Hid (txtS d = (⟨#[45]⟩ ++ digB d.m) ++ (⟨#[47, 50, 94]⟩ ++ digB d.den)) := by show _ = _; unfold txtS signB; rw [if_neg hd, hn]; rfl
      rw [HR.out]
      rw [hn] at HN
      clear HR
      go_enter Tryd.func32, Tryd.ntmps32
      go_wp2_with (first
        | (go_at_call 54; refine (HN.out _ (Ext.alloc _ _)).mono ?_; rintro e w1 ⟨rfl, hx⟩; obtain ⟨⟨k0, k1, k2⟩, hz, hx1⟩ := one_box hx; have HX := Lib.hid hx1; obtain ⟨hc, hf⟩ := hx.old; clear hx hx1)
        | (go_at_call 67; refine (HDC.out _ (ext_set3 HX.out (Nat.le_refl _) _ _ _)).mono ?_; rintro e w2 ⟨rfl, hx⟩; have hk := hx.old.1; have HX2 := Lib.hid ((ext_set3 HX.out (Nat.le_refl _) _ _ _).trans hx); clear hx)
        | (go_at_call 68; refine (Tryd.strconv_Itoa_small d.den h2 _).mono ?_; rintro e w5 ⟨rfl, rfl⟩))
      go_ret
      exact ⟨rfl, HX2.out⟩

end Go.Proofs.YtbghikgagejbiaaDoor
