/-
  A file of the disk in memory: its block, its slices, what lies in them.
-/
import Derived.Test.YtgephceihkkokaaGreatDoorDPut
namespace Go.Proofs.YtgephceihkkokaaGreatDoor
open Go.RowKit Go.Deep

/-- A write. -/
structure WriteM where
  turn : Int
  at_ : Nat
  s : ByteArray
/-- A file: its image, its bytes, the writes that wait. -/
structure FileM where
  image : List UInt8
  bytes : List UInt8
  writes : List WriteM
/-- A file in memory: its name, its block, its three slices. -/
structure Ent where
  name : ByteArray
  blk : Nat
  vi : Value
  vb : Value
  vw : Value
  f : FileM

def wcells (x : WriteM) : List Value := [.int .i64 x.turn, .int .i64 x.at_, .string x.s]
theorem wcells_length (x : WriteM) : (wcells x).length = 3 := rfl
def WritesAt (w : World) (v : Value) (ws : List WriteM) : Prop := w.ownsRow 0 93 3 v ws.length (ws.flatMap wcells)

/-- The blocks of a file. -/
def Ent.foot (e : Ent) : List Nat := e.blk :: (e.vi.ownBlock.toList ++ (e.vb.ownBlock.toList ++ e.vw.ownBlock.toList))
structure EntAt (w : World) (e : Ent) : Prop where
  head : w.heap[e.blk]? = some (.cells #[e.vi, e.vb, e.vw] 88 (0, 0))
  image : BytesAt w e.vi e.f.image
  bytes : BytesAt w e.vb e.f.bytes
  writes : WritesAt w e.vw e.f.writes
  apart : e.foot.Nodup

theorem mem_foot_blk (e : Ent) : e.blk ∈ e.foot := List.mem_cons_self ..
theorem mem_foot_vi (e : Ent) {g : Nat} (h : e.vi.ownBlock = some g) : g ∈ e.foot := by simp [Ent.foot, h]
theorem mem_foot_vb (e : Ent) {g : Nat} (h : e.vb.ownBlock = some g) : g ∈ e.foot := by simp [Ent.foot, h]
theorem mem_foot_vw (e : Ent) {g : Nat} (h : e.vw.ownBlock = some g) : g ∈ e.foot := by simp [Ent.foot, h]
theorem EntAt.chg {S : Nat → Prop} {w w' : World} {e : Ent} (h : EntAt w e) (hc : Chg S w w') (hn : ∀ k ∈ e.foot, ¬ S k) : EntAt w' e :=
  ⟨hc.heap h.head (hn _ (mem_foot_blk e)), hc.bytes h.image fun g hg => hn g (mem_foot_vi e hg), hc.bytes h.bytes fun g hg => hn g (mem_foot_vb e hg), hc.row h.writes fun g hg => hn g (mem_foot_vw e hg), h.apart⟩
theorem EntAt.drew {w : World} {e : Ent} (h : EntAt w e) : EntAt w.drew e := ⟨h.head, h.image, h.bytes, h.writes, h.apart⟩
theorem EntAt.drewN {w : World} {e : Ent} (h : EntAt w e) (n : Nat) : EntAt (w.drewN n) e := ⟨h.head, h.image, h.bytes, h.writes, h.apart⟩
theorem own_lt {w : World} {base : Nat} {e : TypeId} {size : Nat} {v : Value} {n : Nat} {xs : List Value} (h : w.ownsRow base e size v n xs) {g : Nat} (hg : v.ownBlock = some g) : g < w.heap.size := (h.lt g hg).2
theorem EntAt.lt {w : World} {e : Ent} (h : EntAt w e) : ∀ k ∈ e.foot, k < w.heap.size := by
  intro k hk
  simp only [Ent.foot, List.mem_cons, List.mem_append, Option.mem_toList] at hk
  rcases hk with rfl | hk | hk | hk
  · exact (Array.getElem?_eq_some_iff.1 h.head).1
  · exact own_lt h.image hk
  · exact own_lt h.bytes hk
  · exact own_lt h.writes hk
theorem foot_iff (e : Ent) : e.foot.Nodup ↔ ((∀ g, e.vi.ownBlock = some g → g ≠ e.blk) ∧ (∀ g, e.vb.ownBlock = some g → g ≠ e.blk) ∧ (∀ g, e.vw.ownBlock = some g → g ≠ e.blk)) ∧
    (∀ g, e.vi.ownBlock = some g → e.vb.ownBlock ≠ some g ∧ e.vw.ownBlock ≠ some g) ∧ (∀ g, e.vb.ownBlock = some g → e.vw.ownBlock ≠ some g) := by
  unfold Ent.foot
  cases e.vi.ownBlock <;> cases e.vb.ownBlock <;> cases e.vw.ownBlock <;> simp <;> grind
theorem foot_vi (e : Ent) (h : e.foot.Nodup) {g : Nat} (hg : e.vi.ownBlock = some g) : g ≠ e.blk ∧ e.vb.ownBlock ≠ some g ∧ e.vw.ownBlock ≠ some g :=
  have h := (foot_iff e).1 h
  ⟨h.1.1 g hg, h.2.1 g hg⟩
theorem foot_vb (e : Ent) (h : e.foot.Nodup) {g : Nat} (hg : e.vb.ownBlock = some g) : g ≠ e.blk ∧ e.vi.ownBlock ≠ some g ∧ e.vw.ownBlock ≠ some g :=
  have h := (foot_iff e).1 h
  ⟨h.1.2.1 g hg, fun x => (h.2.1 g x).1 hg, h.2.2 g hg⟩
theorem foot_vw (e : Ent) (h : e.foot.Nodup) {g : Nat} (hg : e.vw.ownBlock = some g) : g ≠ e.blk ∧ e.vi.ownBlock ≠ some g ∧ e.vb.ownBlock ≠ some g :=
  have h := (foot_iff e).1 h
  ⟨h.1.2.2 g hg, fun x => (h.2.1 g x).2 hg, fun x => h.2.2 g x hg⟩

/-- What a step on a file leaves: the same block, none of the other blocks that there were. -/
structure Ent.To (w : World) (e e' : Ent) (w' : World) : Prop where
  at_ : EntAt w' e'
  chg : Chg (· ∈ e.foot) w w'
  foot : ∀ k ∈ e'.foot, k ∈ e.foot ∨ w.heap.size ≤ k
  name : e'.name = e.name
  blk : e'.blk = e.blk
theorem Ent.To.refl {w : World} {e : Ent} (h : EntAt w e) : Ent.To w e e w := ⟨h, Chg.refl _ _, fun _ hk => .inl hk, rfl, rfl⟩
theorem Ent.To.new {w w' : World} {e : Ent} (h : EntAt w e) (hc : Chg (fun _ => False) w w') : Ent.To w e e w' :=
  ⟨h.chg hc (fun _ _ x => x), hc.wide (fun _ _ x => x.elim), fun _ hk => .inl hk, rfl, rfl⟩
theorem Ent.To.trans {w w1 w2 : World} {e e1 e2 : Ent} (h : Ent.To w e e1 w1) (k : Ent.To w1 e1 e2 w2) : Ent.To w e e2 w2 := by
  have hs := h.chg.size
  refine ⟨k.at_, h.chg.trans k.chg (fun i hi hx => ?_), fun i hi => ?_, k.name.trans h.name, k.blk.trans h.blk⟩
  · rcases h.foot i hx with h1 | h1
    · exact h1
    · omega
  · rcases k.foot i hi with h1 | h1
    · exact h.foot i h1
    · exact .inr (by omega)
/-- What a call on a file leaves. -/
def FileTo (w : World) (e : Ent) (f : FileM) (w' : World) : Prop := ∃ e', e'.f = f ∧ Ent.To w e e' w'

theorem ent_set_image {w w1 : World} {e : Ent} {v' : Value} {ys : List UInt8} (h : EntAt w e) (hg : w.grownBy w1 e.vi.ownBlock) (hb : BytesAt w1 v' ys) (hl : ∀ g, v'.ownBlock = some g → e.vi.ownBlock = some g ∨ w.heap.size ≤ g) :
    Ent.To w e { e with vi := v', f := { e.f with image := ys } } (w1.setCell ⟨e.blk, 0, none⟩ v') := by
  have hlt := h.lt
  obtain ⟨⟨a1, a2, a3⟩, b1, c1⟩ := (foot_iff e).1 h.apart
  have b2 : ∀ g, e.vb.ownBlock = some g → e.vi.ownBlock ≠ some g := fun g hg hx => (b1 g hx).1 hg
  have b3 : ∀ g, e.vw.ownBlock = some g → e.vi.ownBlock ≠ some g := fun g hg hx => (b1 g hx).2 hg
  have c2 : ∀ g, e.vw.ownBlock = some g → e.vb.ownBlock ≠ some g := fun g hg hx => c1 g hx hg
  have n1 := fun g hg => hlt g (mem_foot_vi e (g := g) hg)
  have n2 := fun g hg => hlt g (mem_foot_vb e (g := g) hg)
  have n3 := fun g hg => hlt g (mem_foot_vw e (g := g) hg)
  have n0 := hlt _ (mem_foot_blk e)
  have k1 : Chg (fun k => some k = e.vi.ownBlock) w w1 := Chg.of_grown hg (fun k hk _ => hk.symm)
  have k2 : Chg (fun k => k = e.blk) w1 (w1.setCell ⟨e.blk, 0, none⟩ v') := Chg.setCell (S := fun k => k = e.blk) (Chg.refl _ _) (fun _ => rfl) _
  have hh : w1.heap[e.blk]? = some (.cells #[e.vi, e.vb, e.vw] 88 (0, 0)) := k1.heap h.head (fun x => by first | exact a1 _ x.symm rfl | exact a2 _ x.symm rfl | exact a3 _ x.symm rfl)
  have nb : ∀ g, v'.ownBlock = some g → g ≠ e.blk := fun g hx => by
    rcases hl g hx with h1 | h1
    · exact a1 g h1
    · omega
  refine ⟨⟨?_, ?_, ?_, ?_, ?_⟩, ?_, ?_, rfl, rfl⟩
  · have := heap_setCell_same w1 e.blk 0 #[e.vi, e.vb, e.vw] 88 v' hh
    simpa using this
  · exact k2.bytes hb fun g hx hy => nb g hx hy
  · exact k2.bytes (k1.bytes h.bytes fun g hx hy => (b1 g hy.symm).1 hx) fun g hx hy => a2 g hx hy
  · exact k2.row (k1.row h.writes fun g hx hy => (b1 g hy.symm).2 hx) fun g hx hy => a3 g hx hy
  · refine (foot_iff _).2 ?_
    simp only
    grind
  · refine (Chg.wide k1 (fun i _ hx => ?_)).trans (k2.wide (S' := (· ∈ e.foot)) (fun i _ hx => hx ▸ mem_foot_blk e)) (fun i _ hx => hx)
    exact mem_foot_vi e hx.symm
  · intro k hk
    simp only [Ent.foot, List.mem_cons, List.mem_append, Option.mem_toList] at hk
    rcases hk with rfl | hk | hk | hk
    · exact .inl (mem_foot_blk e)
    · rcases hl _ hk with h1 | h1
      · exact .inl (mem_foot_vi e h1)
      · exact .inr h1
    · exact .inl (mem_foot_vb e hk)
    · exact .inl (mem_foot_vw e hk)

theorem ent_set_bytes {w w1 : World} {e : Ent} {v' : Value} {ys : List UInt8} (h : EntAt w e) (hg : w.grownBy w1 e.vb.ownBlock) (hb : BytesAt w1 v' ys) (hl : ∀ g, v'.ownBlock = some g → e.vb.ownBlock = some g ∨ w.heap.size ≤ g) :
    Ent.To w e { e with vb := v', f := { e.f with bytes := ys } } (w1.setCell ⟨e.blk, 1, none⟩ v') := by
  have hlt := h.lt
  obtain ⟨⟨a1, a2, a3⟩, b1, c1⟩ := (foot_iff e).1 h.apart
  have b2 : ∀ g, e.vb.ownBlock = some g → e.vi.ownBlock ≠ some g := fun g hg hx => (b1 g hx).1 hg
  have b3 : ∀ g, e.vw.ownBlock = some g → e.vi.ownBlock ≠ some g := fun g hg hx => (b1 g hx).2 hg
  have c2 : ∀ g, e.vw.ownBlock = some g → e.vb.ownBlock ≠ some g := fun g hg hx => c1 g hx hg
  have n1 := fun g hg => hlt g (mem_foot_vi e (g := g) hg)
  have n2 := fun g hg => hlt g (mem_foot_vb e (g := g) hg)
  have n3 := fun g hg => hlt g (mem_foot_vw e (g := g) hg)
  have n0 := hlt _ (mem_foot_blk e)
  have k1 : Chg (fun k => some k = e.vb.ownBlock) w w1 := Chg.of_grown hg (fun k hk _ => hk.symm)
  have k2 : Chg (fun k => k = e.blk) w1 (w1.setCell ⟨e.blk, 1, none⟩ v') := Chg.setCell (S := fun k => k = e.blk) (Chg.refl _ _) (fun _ => rfl) _
  have hh : w1.heap[e.blk]? = some (.cells #[e.vi, e.vb, e.vw] 88 (0, 0)) := k1.heap h.head (fun x => by first | exact a1 _ x.symm rfl | exact a2 _ x.symm rfl | exact a3 _ x.symm rfl)
  have nb : ∀ g, v'.ownBlock = some g → g ≠ e.blk := fun g hx => by
    rcases hl g hx with h1 | h1
    · exact a2 g h1
    · omega
  refine ⟨⟨?_, ?_, ?_, ?_, ?_⟩, ?_, ?_, rfl, rfl⟩
  · have := heap_setCell_same w1 e.blk 1 #[e.vi, e.vb, e.vw] 88 v' hh
    simpa using this
  · exact k2.bytes (k1.bytes h.image fun g hx hy => (b1 g hx).1 hy.symm) fun g hx hy => a1 g hx hy
  · exact k2.bytes hb fun g hx hy => nb g hx hy
  · exact k2.row (k1.row h.writes fun g hx hy => c1 g hy.symm hx) fun g hx hy => a3 g hx hy
  · refine (foot_iff _).2 ?_
    simp only
    grind
  · refine (Chg.wide k1 (fun i _ hx => ?_)).trans (k2.wide (S' := (· ∈ e.foot)) (fun i _ hx => hx ▸ mem_foot_blk e)) (fun i _ hx => hx)
    exact mem_foot_vb e hx.symm
  · intro k hk
    simp only [Ent.foot, List.mem_cons, List.mem_append, Option.mem_toList] at hk
    rcases hk with rfl | hk | hk | hk
    · exact .inl (mem_foot_blk e)
    · exact .inl (mem_foot_vi e hk)
    · rcases hl _ hk with h1 | h1
      · exact .inl (mem_foot_vb e h1)
      · exact .inr h1
    · exact .inl (mem_foot_vw e hk)

theorem ent_set_writes {w w1 : World} {e : Ent} {v' : Value} {ys : List WriteM} (h : EntAt w e) (hg : w.grownBy w1 e.vw.ownBlock) (hb : WritesAt w1 v' ys) (hl : ∀ g, v'.ownBlock = some g → e.vw.ownBlock = some g ∨ w.heap.size ≤ g) :
    Ent.To w e { e with vw := v', f := { e.f with writes := ys } } (w1.setCell ⟨e.blk, 2, none⟩ v') := by
  have hlt := h.lt
  obtain ⟨⟨a1, a2, a3⟩, b1, c1⟩ := (foot_iff e).1 h.apart
  have b2 : ∀ g, e.vb.ownBlock = some g → e.vi.ownBlock ≠ some g := fun g hg hx => (b1 g hx).1 hg
  have b3 : ∀ g, e.vw.ownBlock = some g → e.vi.ownBlock ≠ some g := fun g hg hx => (b1 g hx).2 hg
  have c2 : ∀ g, e.vw.ownBlock = some g → e.vb.ownBlock ≠ some g := fun g hg hx => c1 g hx hg
  have n1 := fun g hg => hlt g (mem_foot_vi e (g := g) hg)
  have n2 := fun g hg => hlt g (mem_foot_vb e (g := g) hg)
  have n3 := fun g hg => hlt g (mem_foot_vw e (g := g) hg)
  have n0 := hlt _ (mem_foot_blk e)
  have k1 : Chg (fun k => some k = e.vw.ownBlock) w w1 := Chg.of_grown hg (fun k hk _ => hk.symm)
  have k2 : Chg (fun k => k = e.blk) w1 (w1.setCell ⟨e.blk, 2, none⟩ v') := Chg.setCell (S := fun k => k = e.blk) (Chg.refl _ _) (fun _ => rfl) _
  have hh : w1.heap[e.blk]? = some (.cells #[e.vi, e.vb, e.vw] 88 (0, 0)) := k1.heap h.head (fun x => by first | exact a1 _ x.symm rfl | exact a2 _ x.symm rfl | exact a3 _ x.symm rfl)
  have nb : ∀ g, v'.ownBlock = some g → g ≠ e.blk := fun g hx => by
    rcases hl g hx with h1 | h1
    · exact a3 g h1
    · omega
  refine ⟨⟨?_, ?_, ?_, ?_, ?_⟩, ?_, ?_, rfl, rfl⟩
  · have := heap_setCell_same w1 e.blk 2 #[e.vi, e.vb, e.vw] 88 v' hh
    simpa using this
  · exact k2.bytes (k1.bytes h.image fun g hx hy => (b1 g hx).2 hy.symm) fun g hx hy => a1 g hx hy
  · exact k2.bytes (k1.bytes h.bytes fun g hx hy => c1 g hx hy.symm) fun g hx hy => a2 g hx hy
  · exact k2.row hb fun g hx hy => nb g hx hy
  · refine (foot_iff _).2 ?_
    simp only
    grind
  · refine (Chg.wide k1 (fun i _ hx => ?_)).trans (k2.wide (S' := (· ∈ e.foot)) (fun i _ hx => hx ▸ mem_foot_blk e)) (fun i _ hx => hx)
    exact mem_foot_vw e hx.symm
  · intro k hk
    simp only [Ent.foot, List.mem_cons, List.mem_append, Option.mem_toList] at hk
    rcases hk with rfl | hk | hk | hk
    · exact .inl (mem_foot_blk e)
    · exact .inl (mem_foot_vi e hk)
    · exact .inl (mem_foot_vb e hk)
    · rcases hl _ hk with h1 | h1
      · exact .inl (mem_foot_vw e h1)
      · exact .inr h1

theorem own_form {v v' : Value} {n : Nat} (h : v'.ownBlock = v.ownBlock ∨ ∃ g, v'.ownBlock = some g ∧ n ≤ g) : ∀ g, v'.ownBlock = some g → v.ownBlock = some g ∨ n ≤ g := by
  intro g hg
  rcases h with h | ⟨g', h1, h2⟩
  · exact .inl (h ▸ hg)
  · rw [hg] at h1; cases h1; exact .inr h2
theorem EntAt.cells {w : World} {e : Ent} (h : EntAt w e) : w.cell? ⟨e.blk, 0, none⟩ = some e.vi ∧ w.cell? ⟨e.blk, 1, none⟩ = some e.vb ∧ w.cell? ⟨e.blk, 2, none⟩ = some e.vw ∧ ∀ i, w.frozen? ⟨e.blk, i, none⟩ = false := by
  refine ⟨by simp [World.cell?, h.head], by simp [World.cell?, h.head], by simp [World.cell?, h.head], fun i => ?_⟩
  simp [World.frozen?, h.head]
end Go.Proofs.YtgephceihkkokaaGreatDoor
