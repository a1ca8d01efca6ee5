/- A part. -/
import Derived.DataShut
import Derived.Test.YtccfkhlcnpfkiaaGreatDoorTpl44
set_option linter.unusedVariables false
set_option linter.unusedSimpArgs false
namespace Go.Proofs.YtccfkhlcnpfkiaaGreatDoor
open Go.Joins Go.ChangeShapes Go.WideShapes Go.RowKit Go.Deep
structure OpT where
  k : Int
  n : Int
  p : MsgM × Value
instance : Inhabited OpT := ⟨⟨0, 0, default⟩⟩
def OpT.cells (x : OpT) : List Value := .int .i64 x.k :: .int .i64 x.n :: (x.p.1.cells x.p.2).toList
def OpsT (w : World) (v : Value) (os : List OpT) : Prop :=
  ∃ a cap, v = .slice a os.length cap ∧ (os = [] ∨ ∃ b o, a = some ⟨b, o, none⟩ ∧ b < w.heap.size ∧ ∀ k x, os[k]? = some x → ∀ i, i < 12 → w.cell? ⟨b, o + k * 12 + i, none⟩ = x.cells[i]?)
def OpT.ok (w : World) (x : OpT) : Prop := (Lit.int .i64 x.n).wf = true ∧ Sized w x.p ∧ CapOk x.p.2
theorem OpsT.form {w : World} {v : Value} {os : List OpT} (h : OpsT w v os) : ∃ a cap, v = .slice a os.length cap := by
  obtain ⟨a, cap, e, _⟩ := h
  exact ⟨a, cap, e⟩
theorem OpsT.keep {w w' : World} {v : Value} {os : List OpT} (h : OpsT w v os) (hc : Chg (fun _ => False) w w') : OpsT w' v os := by
  obtain ⟨a, cap, rfl, h⟩ := h
  refine ⟨a, cap, rfl, ?_⟩
  rcases h with h | ⟨b, o, rfl, hb, h⟩
  · exact .inl h
  · refine .inr ⟨b, o, rfl, Nat.lt_of_lt_of_le hb hc.size, fun k x hx i hi => ?_⟩
    rw [← h k x hx i hi]
    exact World.cell?_of_block (hc.block b hb (fun e => e))
section
variable {H : Type} {enc : TypeId × Value → H} {W : World}
set_option maxRecDepth 100000 in
theorem opt_open {n : Nat} {b o : Nat} {cs : List Value} {y : DataW H × List MemPlace} (hcs : W.cells? 0 ⟨b, o, none⟩ 12 = some cs) (h : DataW.trod enc Tryz.prog W 0 (fun _ => true) true n 40 cs = some y) :
    ∃ x : OpT, (∀ i, i < 12 → W.cell? ⟨b, o + i, none⟩ = x.cells[i]?) ∧ x.ok W := by
  obtain ⟨_, hlen, hat⟩ := World.cells?_some hcs
  obtain ⟨xs, m, _, _, _, hxl, hf⟩ := DataW.trod_struct Tryz.underlying40 h
  match cs, hlen with
  | [c0, c1, c2, c3, c4, c5, c6, c7, c8, c9, c10, c11], _ =>
    have hx : xs.length = 3 := hxl
    match xs, hx with
    | [y0, y1, y2], _ =>
      have f0 : DataW.trod enc Tryz.prog W 0 (fun _ => true) true m 3 [c0] = some y0 := hf 0 _ rfl
      have f1 : DataW.trod enc Tryz.prog W 0 (fun _ => true) true m 3 [c1] = some y1 := hf 1 _ rfl
      have f2 : DataW.trod enc Tryz.prog W 0 (fun _ => true) true m 38 [c2, c3, c4, c5, c6, c7, c8, c9, c10, c11] = some y2 := hf 2 _ rfl
      obtain ⟨b0, e0, _, _⟩ := DataW.trod_int Tryz.underlying3 f0
      obtain rfl : c0 = _ := List.singleton_inj.1 e0
      obtain ⟨b1, e1, _, w1⟩ := DataW.trod_int Tryz.underlying3 f1
      obtain rfl : c1 = _ := List.singleton_inj.1 e1
      have at2 : ∀ j, j < 10 → W.cell? ⟨b, o + 2 + j, none⟩ = [c2, c3, c4, c5, c6, c7, c8, c9, c10, c11][j]? := fun j hj => by
        have := hat (j + 2) (by omega)
        rw [add_none, show o + (j + 2) = o + 2 + j from by omega] at this
        rw [this]
        rfl
      obtain ⟨p, hp, hs, hc⟩ := msg_open (o := o + 2) (World.cells?_of_each (Nat.zero_le _) rfl (fun i hi => by rw [add_none]; exact at2 i hi)) f2
      refine ⟨⟨b0, b1, p⟩, fun i hi => ?_, w1, hs, hc⟩
      have hi0 := hat i hi
      rw [add_none] at hi0
      match i, hi with
      | 0, _ => rw [hi0]; rfl
      | 1, _ => rw [hi0]; rfl
      | i + 2, hi =>
        have := hp i (by omega)
        rw [show o + (i + 2) = o + 2 + i from by omega, this]
        show _ = (p.1.cells p.2).toList[i]?
        rw [Array.getElem?_toList]
set_option maxRecDepth 100000 in
theorem open_opst {n : Nat} {la : Option Addr} {len cap : Nat} {y : DataW H × List MemPlace} (h : DataW.trod enc Tryz.prog W 0 (fun _ => true) true n 22 [.slice la len cap] = some y) :
    ∃ os, OpsT W (.slice la len cap) os ∧ os.length ≤ maxLen ∧ ∀ x ∈ os, x.ok W := by
  rcases open_slice Tryz.underlying22 h with ⟨hcs, _⟩ | ⟨a, l, c, m, q, D, Pl, hcs, _, hl, hm, hmm, _, hi⟩
  · cases hcs
    exact ⟨[], ⟨none, 0, rfl, .inl rfl⟩, Nat.zero_le _, fun x hx => by cases hx⟩
  · cases hcs
    have hC : Tryz.prog.cellsOf 40 = 12 := by kernel_rfl
    rcases Nat.eq_zero_or_pos len with h0 | h0
    · subst h0
      exact ⟨[], ⟨some a, cap, rfl, .inl rfl⟩, Nat.zero_le _, fun x hx => by cases hx⟩
    · have hml : len ≤ m := by rw [hmm]; simpa using hl
      obtain ⟨b, off, spot⟩ := a
      have hspot : spot = none := by
        obtain ⟨cs', h1, _⟩ := hi 0 (by omega)
        rw [hC] at h1
        obtain ⟨_, hlen, hat⟩ := World.cells?_some h1
        have h2 := hat 0 (by decide)
        rw [List.getElem?_eq_getElem (by omega)] at h2
        simpa [Addr.add] using World.cell?_spot h2
      subst hspot
      obtain ⟨X, hX⟩ := choose_lt (n := len) (p := fun i (x : OpT) => (∀ q, q < 12 → W.cell? ⟨b, off + i * 12 + q, none⟩ = x.cells[q]?) ∧ x.ok W) (fun i hil => by
        obtain ⟨cs', h1, h2⟩ := hi i (by omega)
        rw [hC, add_none] at h1
        exact opt_open h1 h2)
      have hb : b < W.heap.size := by
        have := (hX 0 (by omega)).1 0 (by decide)
        rw [show ((X 0).cells)[0]? = some (.int .i64 (X 0).k) from rfl] at this
        exact World.block_lt_of_cell? _ _ this
      refine ⟨(List.range len).map X, ⟨_, cap, by simp, .inr ⟨b, off, rfl, hb, fun i x hx => ?_⟩⟩, by simpa using Nat.le_trans hl hm, fun x hx => ?_⟩
      · rw [List.getElem?_map] at hx
        obtain ⟨j, hj, rfl⟩ := Option.map_eq_some_iff.1 hx
        have hjl := List.getElem?_eq_some_iff.1 hj
        obtain ⟨h1, h2⟩ := hjl
        rw [List.getElem_range] at h2
        subst h2
        exact (hX _ (by simpa using h1)).1
      · obtain ⟨i, hil, rfl⟩ := List.mem_map.1 hx
        exact (hX i (List.mem_range.1 hil)).2
end
def GreatT (os : List OpT) (w : World) (e : Ending) (w' : World) : Prop := ∃ z, e = .returned (.bool z) ∧ (z = false → os.length ≤ 80 ∧ ∀ x ∈ os, Fine x.p.1) ∧ Below w.heap.size w w'
set_option maxHeartbeats 4000000 in
set_option maxRecDepth 100000 in
theorem greatT_any (v : Value) (os : List OpT) (w : World) (h : OpsT w v os) (hl : os.length ≤ maxLen) (hs : ∀ x ∈ os, x.ok w) : Calls Tryz.prog 6 #[v] w (GreatT os w) := by
  unfold maxLen at hl
  have H := Lib.hid h
  have HS := Lib.hid hs
  obtain ⟨a, cap, rfl⟩ := h.form
  obtain ⟨n, hn⟩ : ∃ n, n = os.length := ⟨_, rfl⟩
  have HN := Lib.hid hn
  rw [← hn] at H hl ⊢
  clear h hs hn
  go_enter Tryz.func6, Tryz.ntmps6
  by_cases h80 : 80 < n
  · go_wp2_with fail
    go_ret
    exact ⟨true, rfl, (by intro h; cases h), Below.refl _ _⟩
  go_wp2_with fail
  go_loopw [10] (fun i wr => ∃ k : Nat, k ≤ n ∧ i = .int .i64 k ∧ (∀ j x, j < k → os[j]? = some x → Fine x.p.1) ∧ Below w.heap.size w wr) (fun i _ => n - (intOf i).toNat)
  case atStart => exact ⟨0, Nat.zero_le _, rfl, fun _ _ h => absurd h (Nat.not_lt_zero _), Below.refl _ _⟩
  case round =>
    obtain ⟨k, hk, rfl, hfine, hbel⟩ := hrel
    have HF := Lib.hid hfine
    by_cases hlt : k < n
    · obtain ⟨x, hx⟩ : ∃ x, os[k]? = some x := ⟨_, List.getElem?_eq_getElem (by rw [← HN.out]; exact hlt)⟩
      obtain ⟨x1, x2, ⟨⟨m1, m2, m3, m4, m5, m6, m7, m8, m9, m10⟩, va⟩⟩ := x
      have hsz := (HS.out _ (List.mem_of_getElem? hx)).2.1
      obtain ⟨a', cap', e', hh⟩ := H.out
      rcases hh with hh | ⟨b, o, rfl, hlow, hcell⟩
      · rw [hh] at hx; cases hx
      have key := hcell k _ hx
      obtain ⟨ka, kc, hva⟩ := hsz.strs.form
      dsimp only at hva
      obtain ⟨kl, hkl⟩ : ∃ l, l = m10.length := ⟨_, rfl⟩
      rw [← hkl] at hva
      subst hva
      obtain ⟨hea, hec⟩ : a = some ⟨b, o, none⟩ ∧ cap = cap' := by injection e' with e1 e2 e3; exact ⟨e1, e3⟩
      subst hea
      clear e' hec hcell
      have f0 : wr.cell? ⟨b, o + k * 12, none⟩ = some (.int .i64 x1) := (hbel.cell hlow).trans (by first | (simp [OpT.cells, MsgM.cells]; done) | simpa [OpT.cells, MsgM.cells] using key 0 (by decide))
      have f1 : wr.cell? ⟨b, o + k * 12 + 1, none⟩ = some (.int .i64 x2) := (hbel.cell hlow).trans (by first | (simp [OpT.cells, MsgM.cells]; done) | simpa [OpT.cells, MsgM.cells] using key 1 (by decide))
      have f2 : wr.cell? ⟨b, o + k * 12 + 1 + 1, none⟩ = some (.int .i64 m1) := (hbel.cell hlow).trans (by first | (simp [OpT.cells, MsgM.cells]; done) | simpa [OpT.cells, MsgM.cells] using key 2 (by decide))
      have f3 : wr.cell? ⟨b, o + k * 12 + 1 + 1 + 1, none⟩ = some (.int .i64 m2) := (hbel.cell hlow).trans (by first | (simp [OpT.cells, MsgM.cells]; done) | simpa [OpT.cells, MsgM.cells] using key 3 (by decide))
      have f4 : wr.cell? ⟨b, o + k * 12 + 1 + 1 + 1 + 1, none⟩ = some (.int .i64 m3) := (hbel.cell hlow).trans (by first | (simp [OpT.cells, MsgM.cells]; done) | simpa [OpT.cells, MsgM.cells] using key 4 (by decide))
      have f5 : wr.cell? ⟨b, o + k * 12 + 1 + 1 + 1 + 1 + 1, none⟩ = some (.int .i64 m4) := (hbel.cell hlow).trans (by first | (simp [OpT.cells, MsgM.cells]; done) | simpa [OpT.cells, MsgM.cells] using key 5 (by decide))
      have f6 : wr.cell? ⟨b, o + k * 12 + 1 + 1 + 1 + 1 + 1 + 1, none⟩ = some (.int .i64 m5) := (hbel.cell hlow).trans (by first | (simp [OpT.cells, MsgM.cells]; done) | simpa [OpT.cells, MsgM.cells] using key 6 (by decide))
      have f7 : wr.cell? ⟨b, o + k * 12 + 1 + 1 + 1 + 1 + 1 + 1 + 1, none⟩ = some (.int .i64 m6) := (hbel.cell hlow).trans (by first | (simp [OpT.cells, MsgM.cells]; done) | simpa [OpT.cells, MsgM.cells] using key 7 (by decide))
      have f8 : wr.cell? ⟨b, o + k * 12 + 1 + 1 + 1 + 1 + 1 + 1 + 1 + 1, none⟩ = some (.string m7) := (hbel.cell hlow).trans (by first | (simp [OpT.cells, MsgM.cells]; done) | simpa [OpT.cells, MsgM.cells] using key 8 (by decide))
      have f9 : wr.cell? ⟨b, o + k * 12 + 1 + 1 + 1 + 1 + 1 + 1 + 1 + 1 + 1, none⟩ = some (.string m8) := (hbel.cell hlow).trans (by first | (simp [OpT.cells, MsgM.cells]; done) | simpa [OpT.cells, MsgM.cells] using key 9 (by decide))
      have f10 : wr.cell? ⟨b, o + k * 12 + 1 + 1 + 1 + 1 + 1 + 1 + 1 + 1 + 1 + 1, none⟩ = some (.string m9) := (hbel.cell hlow).trans (by first | (simp [OpT.cells, MsgM.cells]; done) | simpa [OpT.cells, MsgM.cells] using key 10 (by decide))
      have f11 : wr.cell? ⟨b, o + k * 12 + 1 + 1 + 1 + 1 + 1 + 1 + 1 + 1 + 1 + 1 + 1, none⟩ = some (.slice ka kl kc) := (hbel.cell hlow).trans (by first | (simp [OpT.cells, MsgM.cells]; done) | simpa [OpT.cells, MsgM.cells] using key 11 (by decide))
      have HX := Lib.hid hx
      have HBEL := Lib.hid hbel
      have HKL := Lib.hid hkl
      obtain ⟨W1, hW1⟩ : ∃ W, W = wr.alloc (.cells #[.int .i64 x1, .int .i64 x2, .int .i64 m1, .int .i64 m2, .int .i64 m3, .int .i64 m4, .int .i64 m5, .int .i64 m6, .string m7, .string m8, .string m9, .slice ka kl kc] 40) := ⟨_, rfl⟩
      obtain ⟨W2, hW2⟩ : ∃ W, W = W1.alloc (.cells #[.int .i64 m1, .int .i64 m2, .int .i64 m3, .int .i64 m4, .int .i64 m5, .int .i64 m6, .string m7, .string m8, .string m9, .slice ka kl kc] 38) := ⟨_, rfl⟩
      have hb1 : Below wr.heap.size wr W1 := hW1 ▸ (Below.refl _ _).alloc (Nat.le_refl _) _
      have hb2 : Below W1.heap.size W1 W2 := hW2 ▸ (Below.refl _ _).alloc (Nat.le_refl _) _
      have hb12 : Below wr.heap.size wr W2 := hb1.trans (hb2.mono hb1.size)
      have hms : MsgsAt W2 (.slice (some ⟨W1.heap.size, 0, none⟩) 1 1) [((⟨m1, m2, m3, m4, m5, m6, m7, m8, m9, m10⟩ : MsgM), .slice ka kl kc)] := by
        refine ⟨_, 1, rfl, .inr ⟨_, 0, rfl, by rw [hW2, World.size_alloc]; omega, fun j p hp i hi => ?_⟩⟩
        cases j with
        | zero =>
          simp at hp
          subst hp
          rw [hW2, World.cell?, heap_alloc_new]
          show _ = _
          simp [MsgM.cells]
        | succ j => simp at hp
      have hgr := great_msgs _ _ W2 hms (by simp) (fun p hp => by
        rw [List.mem_singleton] at hp
        subst hp
        have hb : Below w.heap.size w W2 := hbel.trans (hb12.mono hbel.size)
        exact ⟨hsz.strs.below hb (Nat.le_refl _), hsz.body, hsz.topic, hsz.tag, hsz.many, hsz.keys⟩)
      rw [show W1.heap.size = wr.heap.size + 1 from by rw [hW1, World.size_alloc]] at hgr
      have HG := Lib.hid hgr
      have HB12 := Lib.hid (hbel.trans (hb12.mono hbel.size))
      have HW1 := Lib.hid hW1
      have HBX : Hid (∀ i, W1.cell? ⟨wr.heap.size, i, none⟩ = (#[.int .i64 x1, .int .i64 x2, .int .i64 m1, .int .i64 m2, .int .i64 m3, .int .i64 m4, .int .i64 m5, .int .i64 m6, .string m7, .string m8, .string m9, .slice ka kl kc] : Array Value)[i]?) := Lib.hid (fun i => by rw [hW1, World.cell?, heap_alloc_new]; simp)
      have HW2 := Lib.hid hW2
      clear hfine key hsz hx hkl hbel hlow hb1 hb2 hb12 hms hgr
      go_upto_region 6 with fail
      rw [← HW1.out]
      have hkx := HBX.out
      clear f0 f1 f2 f3 f4 f5 f6 f7 f8 f9 f10 f11
      go_wp2_with fail
      rw [← HW1.out, ← HW2.out]
      refine HG.out.mono ?_
      rintro e w3 ⟨z, rfl, hz, hb3⟩
      have HB3 := Lib.hid (HB12.out.trans (hb3.mono HB12.out.size))
      have HZ := Lib.hid hz
      clear hz hb3
      cases z
      case true =>
        go_wp2_with fail
        go_ret
        exact ⟨true, rfl, (by intro h; cases h), HB3.out⟩
      case false =>
        have HFN := Lib.hid (HZ.out rfl _ (List.mem_singleton.2 rfl))
        go_wp2_with fail
        refine ⟨⟨k + 1, by omega, by go_num, ?_, HB3.out⟩, by simp [intOf]; omega⟩
        intro j x hj hx
        by_cases e : j < k
        · exact HF.out j x e hx
        · obtain rfl : j = k := by omega
          rw [HX.out] at hx
          cases hx
          exact HFN.out
    · obtain rfl : k = n := by omega
      have HALL : Hid (∀ x ∈ os, Fine x.p.1) := Lib.hid fun x hx => by
        obtain ⟨j, hj, e⟩ := List.getElem_of_mem hx
        exact HF.out j x (by rw [HN.out]; exact hj) (by rw [← e]; exact List.getElem?_eq_getElem hj)
      clear hfine
      go_wp2_with fail
      go_ret
      exact ⟨false, rfl, fun _ => ⟨by rw [← HN.out]; omega, HALL.out⟩, hbel⟩
end Go.Proofs.YtccfkhlcnpfkiaaGreatDoor
