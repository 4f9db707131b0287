/- Two rows that a function owns, kept in a box of two cells: what becomes of them where one is appended to, where memory is made, where the box is written. -/
import Derived.Test.YtdcollchhcjaaaaGate
import Derived.Test.YtdcollchhcjaaaaCrvc
import Derived.Deep.AppendLies
import Derived.Deep.Heap
namespace Go.Proofs.Ytdcollchhcjaaaa
open Go Go.RowKit

theorem gset (w : World) (g i : Nat) (z : Value) : w.grownBy (w.setCell ⟨g, i, none⟩ z) (some g) :=
  ⟨rfl, rfl, rfl, by simp [World.setCell], fun k _ hne => Deep.blk_setCell_other w ⟨g, i, none⟩ z k (fun e => hne (by rw [e]))⟩

/-- Box g holds cu and cv; the rows u and v are owned, apart from each other. -/
structure Two2 (Wc : World) (g B : Nat) (t : TypeId) (w : World) (cu cv u v : Value) (nu nv : Nat) (xs ys : List Value) : Prop where
  ext : Ext Wc w
  box : B2 w g cu cv
  ru : w.ownsRow B t 1 u nu xs
  rv : w.ownsRow B t 1 v nv ys
  ne : u.ownBlock = none ∨ u.ownBlock ≠ v.ownBlock
  gB : Wc.heap.size ≤ g ∧ g < B ∧ B ≤ w.heap.size
variable {Wc w w' : World} {g B : Nat} {t : TypeId} {cu cv u v x : Value} {nu nv : Nat} {xs ys : List Value}

theorem own_ne (h : w.ownsRow B t 1 u nu xs) {g : Nat} (hg : g < B) : some g ≠ u.ownBlock := fun e => by have := (h.lt g e.symm).1; omega
theorem own_fresh (h : w.ownsRow B t 1 u nu xs) {s : Nat} (hs : w.heap.size ≤ s) : some s ≠ u.ownBlock := fun e => by have := (h.lt s e.symm).2; omega
theorem ne_symm {u v : Value} (h : u.ownBlock = none ∨ u.ownBlock ≠ v.ownBlock) : v.ownBlock = none ∨ v.ownBlock ≠ u.ownBlock := by
  rcases h with h | h
  · rw [h]; cases v.ownBlock with
    | none => exact .inl rfl
    | some k => exact .inr (by simp)
  · exact .inr (Ne.symm h)
theorem B2.grown {row : Option Nat} (h : B2 w g cu cv) (hg : w.grownBy w' row) (hne : some g ≠ row) : B2 w' g cu cv := by
  have hl := h.lt
  obtain ⟨⟨h0, h1⟩, hf⟩ := h
  exact ⟨⟨hg.cell h0 hne, hg.cell h1 hne⟩, fun i => (World.frozen?_of_block (hg.block g hl hne)).trans (hf i)⟩
theorem Two2.alloc (d : Two2 Wc g B t w cu cv u v nu nv xs ys) (o : Obj) : Two2 Wc g B t (w.alloc o) cu cv u v nu nv xs ys :=
  ⟨d.ext.trans (Ext.alloc _ _), d.box.ext (Ext.alloc _ _), d.ru.alloc _, d.rv.alloc _, d.ne, d.gB.1, d.gB.2.1, by have := d.gB.2.2; simp; omega⟩
theorem Two2.drew (d : Two2 Wc g B t w cu cv u v nu nv xs ys) : Two2 Wc g B t w.drew cu cv u v nu nv xs ys :=
  ⟨d.ext.trans (Ext.drew _), d.box.ext (Ext.drew _), d.ru, d.rv, d.ne, d.gB⟩
theorem Two2.swap (d : Two2 Wc g B t w cu cv u v nu nv xs ys) (z : World) (hz : w = z) : Two2 Wc g B t z cu cv u v nu nv xs ys := hz ▸ d
theorem Two2.appU (d : Two2 Wc g B t w cu cv u v nu nv xs ys) {g1 cap n1 : Nat} {zs : List Value} (ho : w'.ownsRow B t 1 (.slice (some ⟨g1, 0, none⟩) n1 cap) n1 zs) (hg : w.grownBy w' u.ownBlock)
    (ha : u.ownBlock = some g1 ∨ g1 = w.heap.size) : Two2 Wc g B t w' cu cv (.slice (some ⟨g1, 0, none⟩) n1 cap) v n1 nv zs ys := by
  obtain ⟨g0, g2, g3⟩ := d.gB
  refine ⟨Below.grown d.ext hg d.ext.size (fun k hk => by have := (d.ru.lt k hk).1; omega), d.box.grown hg (own_ne d.ru g2), ho, d.rv.kept hg (ne_symm d.ne), .inr ?_, g0, g2, by have := hg.size; omega⟩
  rcases ha with ha | ha
  · rcases d.ne with h | h
    · rw [h] at ha; cases ha
    · rw [ha] at h; exact h
  · subst ha; exact own_fresh d.rv (Nat.le_refl _)
theorem Two2.appV (d : Two2 Wc g B t w cu cv u v nu nv xs ys) {g1 cap n1 : Nat} {zs : List Value} (ho : w'.ownsRow B t 1 (.slice (some ⟨g1, 0, none⟩) n1 cap) n1 zs) (hg : w.grownBy w' v.ownBlock)
    (ha : v.ownBlock = some g1 ∨ g1 = w.heap.size) : Two2 Wc g B t w' cu cv u (.slice (some ⟨g1, 0, none⟩) n1 cap) nu n1 xs zs := by
  obtain ⟨g0, g2, g3⟩ := d.gB
  refine ⟨Below.grown d.ext hg d.ext.size (fun k hk => by have := (d.rv.lt k hk).1; omega), d.box.grown hg (own_ne d.rv g2), d.ru.kept hg d.ne, ho, .inr (Ne.symm ?_), g0, g2, by have := hg.size; omega⟩
  rcases ha with ha | ha
  · rcases ne_symm d.ne with h | h
    · rw [h] at ha; cases ha
    · rw [ha] at h; exact h
  · subst ha; exact own_fresh d.ru (Nat.le_refl _)
theorem Two2.set0 (d : Two2 Wc g B t w cu cv u v nu nv xs ys) (z : Value) : Two2 Wc g B t (w.setCell ⟨g, 0, none⟩ z) z cv u v nu nv xs ys := by
  obtain ⟨g0, g2, g3⟩ := d.gB
  have hl := d.box.lt
  have c0 := d.box.1.1; have c1 := d.box.1.2; have cf := d.box.2
  refine ⟨d.ext.set g0 _, ⟨⟨?_, ?_⟩, fun i => ?_⟩, d.ru.kept (gset w g 0 z) (.inr (Ne.symm (own_ne d.ru g2))), d.rv.kept (gset w g 0 z) (.inr (Ne.symm (own_ne d.rv g2))), d.ne, g0, g2, by simpa using g3⟩ <;> (clear d; go_simp)
theorem Two2.set1 (d : Two2 Wc g B t w cu cv u v nu nv xs ys) (z : Value) : Two2 Wc g B t (w.setCell ⟨g, 1, none⟩ z) cu z u v nu nv xs ys := by
  obtain ⟨g0, g2, g3⟩ := d.gB
  have c0 := d.box.1.1; have c1 := d.box.1.2; have cf := d.box.2
  refine ⟨d.ext.set g0 _, ⟨⟨?_, ?_⟩, fun i => ?_⟩, d.ru.kept (gset w g 1 z) (.inr (Ne.symm (own_ne d.ru g2))), d.rv.kept (gset w g 1 z) (.inr (Ne.symm (own_ne d.rv g2))), d.ne, g0, g2, by simpa using g3⟩ <;> (clear d; go_simp)

theorem news1 {w : World} {ad : Addr} {v : Value} (h : w.cell? ad = some v) : ∀ j u, [v][j]? = some u → w.cell? (ad.add j) = some u := by
  intro j u hj
  cases j with
  | zero => simp at hj; subst hj; exact h
  | succ j => simp at hj

/-- What holds in a region that loads both cells of a box and writes them later. -/
def SG (H : World → Prop) (s0 s1 : Nat) (a0 a1 : Addr) (u v : Value) (L : Array Bool) (w : World) : Prop :=
  H w ∧ (L.getD s0 true = false → w.cell? a0 = some u) ∧ (L.getD s1 true = false → w.cell? a1 = some v)
theorem no_ {p : Prop} {L : Array Bool} {s : Nat} (h : L.getD s true = true) : L.getD s true = false → p := fun e => by rw [h] at e; cases e
section
variable {md : Region.Mode} {ops : Array Oper} {H : World → Prop} {s0 s1 : Nat} {a0 a1 : Addr} {u v : Value}
theorem SG.same {i : Nat} (h0 : i ≠ s0) (h1 : i ≠ s1) (L : Array Bool) (w : World) : SG H s0 s1 a0 a1 u v (L.setIfInBounds i true) w ↔ SG H s0 s1 a0 a1 u v L w := by
  unfold SG; rw [getD_set_ne true h0, getD_set_ne true h1]
theorem till0 {i : Nat} {ok : Oper} (h0 : i ≠ s0) (h1 : i ≠ s1) (hk : ops[s0]? = some ok) (hw : (ok.after.any fun x => Region.binds md x && x.on == i) = true) :
    Till md ops (SG H s0 s1 a0 a1 u v) i (fun L => L.getD s0 true = false) (fun w => w.cell? a0 = some u) :=
  Till.gate hk hw (fun _ _ hL hS => hS.2.1 hL) (SG.same h0 h1)
theorem till1 {i : Nat} {ok : Oper} (h0 : i ≠ s0) (h1 : i ≠ s1) (hk : ops[s1]? = some ok) (hw : (ok.after.any fun x => Region.binds md x && x.on == i) = true) :
    Till md ops (SG H s0 s1 a0 a1 u v) i (fun L => L.getD s1 true = false) (fun w => w.cell? a1 = some v) :=
  Till.gate hk hw (fun _ _ hL hS => hS.2.2 hL) (SG.same h0 h1)
theorem tillH {i : Nat} (h0 : i ≠ s0) (h1 : i ≠ s1) : Till md ops (SG H s0 s1 a0 a1 u v) i (fun _ => True) H :=
  ⟨fun _ _ _ _ _ _ => trivial, fun _ _ _ hS => hS.1, SG.same h0 h1⟩
end
end Go.Proofs.Ytdcollchhcjaaaa
