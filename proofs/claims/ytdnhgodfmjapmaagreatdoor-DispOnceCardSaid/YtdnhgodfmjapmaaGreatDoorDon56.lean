/- A part. -/
import Derived.Test.YtdnhgodfmjapmaaGreatDoorDon15
import Derived.Test.YtdnhgodfmjapmaaGreatDoorDon55
set_option linter.unusedVariables false
set_option linter.unusedSimpArgs false
namespace Go.Proofs.YtdnhgodfmjapmaaGreatDoor
open Go.RowKit Go.Deep
theorem dinfo : (Tryz.prog.info? 118).isSome = true := by kernel_rfl
theorem same_disk (a : Addr) (w : World) : (binOp .eql 66 (.pointer (some a)) (.pointer (some a))).run Tryz.prog w = .ok (.bool true) w := by
  obtain ⟨j, hj⟩ := Option.isSome_iff_exists.1 dinfo
  exact run_eql_ptr_same w a Tryz.underlying66 hj
theorem chg_drewN (w : World) (q : Nat) : Chg (fun _ => False) w (w.drewN q) := (Chg.refl _ _).drewN q
set_option maxRecDepth 100000 in
theorem drefuses_any {w0 w : World} {B : DspB} {z : DspG} (h : DspI w0 w B z) (hk : z.k = 0) (n : Nat) (hn : n ≤ 10) (hcap : z.y.st.size + 20 * (1 + n) ≤ z.y.st.cap) :
    Calls Tryz.prog 61 #[.pointer (some ⟨B.db, 0, none⟩), .int .i64 (n : Int)] w fun e w' => e = .returned (.int .i64 0) ∧ ∃ q, w' = w.drewN q := by
  obtain ⟨c0, c1, c2, c3, c4, c5, fz⟩ := h.cells
  rw [hk] at c5
  have c5 : w.cell? ⟨B.db, 5, none⟩ = some (.int .i64 0) := c5
  obtain ⟨q0, _, _⟩ := qs_cell h.qx.q.q.at_
  obtain ⟨x0, _, _⟩ := h.qx.x.cells
  have hA : ∀ W, DspI w0 W B z → Calls Tryz.prog 110 #[.iface 26 (.pointer (some ⟨B.xb, 0, none⟩)), .int .i64 ((1 + n : Nat) : Int)] W fun e w' => e = .returned (.int .i64 0) ∧ ∃ q, w' = W.drewN q := fun W h1 => by
    obtain ⟨y0, _, _⟩ := h1.qx.x.cells
    have hD := down_any z.y.g z.y.st W h1.qx.x.disk.disk
    rw [h1.qx.x.calm.down] at hD
    have g1 := h1.qx.x.calm.good.size
    have hR := room_any z.y.g z.y.st W h1.qx.x.disk.disk g1 h1.qx.x.calm.good.cap
    exact against_any y0 (1 + n) (by omega) (by omega) _ (by omega) hD hR
  obtain ⟨m, hm⟩ : ∃ m : Int, m = ((1 + n : Nat) : Int) := ⟨_, rfl⟩
  rw [← hm] at hA
  have e1 : IntKind.i64.wrap (1 + (n : Int)) = m := by rw [IntWalk.i64_in _ (by omega)]; omega
  have e2 : IntKind.i64.wrap (m - 0) = m := by rw [IntWalk.i64_in _ (by omega)]; omega
  have e3 : m - 0 = m := by omega
  have e4 : IntKind.i64.wrap m = m := by rw [IntWalk.i64_in _ (by omega)]
  have hd2 : ∀ q, DspI w0 (w.drewN q) B z := fun q => h.new (chg_drewN w q)
  obtain ⟨db, tb, qb, xb⟩ := B
  dsimp only at *
  have HA := Lib.hid hA
  have HD := Lib.hid hd2
  have hE := same_disk ⟨z.y.g.d, 0, none⟩
  clear hA hm h hk hcap c0 c3 c4 fz hd2
  go_enter Tryz.func61, Tryz.ntmps61
  go_wp2_with fail
  go_quiet (fail)
  go_wp2_with fail
  have c2 : (w.drewN nq).cell? ⟨db, 2, none⟩ = some (.pointer (some ⟨xb, 0, none⟩)) := c2
  have c5 : (w.drewN nq).cell? ⟨db, 5, none⟩ = some (.int .i64 0) := c5
  have HD1 := Lib.hid (HD.out nq)
  obtain ⟨W1, hW1⟩ : ∃ W, W = w.drewN nq := ⟨_, rfl⟩
  have HW1 := Lib.hid hW1
  rw [← hW1] at c2 c5 HD1 ⊢
  clear hW1
  go_still_tail 13, (by kernel_rfl)
  repeat still_step
  change wpList _ _ _ _ _ W1.drew
  have HD2 := Lib.hid (HD1.out.new (Chg.refl _ _).drew)
  have HW2 : Hid (W1.drew = w.drewN (nq + 1)) := Lib.hid (by rw [HW1.out]; rfl)
  generalize W1.drew = W2 at HD2 HW2 ⊢
  have HA2 := Lib.hid (HA.out W2 HD2.out)
  go_wp2_with fail
  refine HA2.out.mono ?_
  rintro e w3 ⟨rfl, q3, rfl⟩
  go_wp2_with fail
  go_ret
  exact ⟨rfl, nq + 1 + q3, by rw [HW2.out]; exact drewN_add _ _ _⟩
attribute [local go_sem] fr_opt
def OutD (w : World) (B : DspB) (z : DspG) (p : Nat) : Prop := p < w.heap.size ∧ ¬ z.own B p
theorem OutD.to {w w' : World} {B : DspB} {z z' : DspG} {p : Nat} (h : OutD w B z p) (hq : QTo w (z.own B) w' (z'.own B)) : OutD w' B z' p ∧ w'.heap[p]? = w.heap[p]? := by
  refine ⟨⟨Nat.lt_of_lt_of_le h.1 hq.chg.size, fun hx => ?_⟩, hq.chg.block p h.1 h.2⟩
  rcases hq.new p hx with a | a
  · exact h.2 a
  · have := h.1; omega
theorem OutD.new {w w' : World} {B : DspB} {z : DspG} {p : Nat} (h : OutD w B z p) (hc : Chg (fun _ => False) w w') : OutD w' B z p := ⟨Nat.lt_of_lt_of_le h.1 hc.size, h.2⟩
theorem cell_in {w : World} {b i : Nat} {v : Value} (h : w.cell? ⟨b, i, none⟩ = some v) : b < w.heap.size := by
  rcases Nat.lt_or_ge b w.heap.size with a | a
  · exact a
  · simp [World.cell?, Array.getElem?_eq_none a] at h
def KeysAt (w : World) (B : DspB) (z : DspG) (vk : Value) (ks : List ByteArray) : Prop := ∃ a cap, vk = .slice a ks.length cap ∧ (ks = [] ∨ ∃ b o, a = some ⟨b, o, none⟩ ∧ OutD w B z b ∧ ∀ i, i < ks.length → w.cell? ⟨b, o + i, none⟩ = some (.string (ks.getD i ⟨#[]⟩)))
theorem KeysAt.to {w w' : World} {B : DspB} {z z' : DspG} {vk : Value} {ks : List ByteArray} (h : KeysAt w B z vk ks) (hq : QTo w (z.own B) w' (z'.own B)) : KeysAt w' B z' vk ks := by
  obtain ⟨a, cap, e, hx⟩ := h
  refine ⟨a, cap, e, hx.imp id ?_⟩
  rintro ⟨b, o, e2, hb, hc⟩
  exact ⟨b, o, e2, (hb.to hq).1, fun i hi => (cell_of_block (hb.to hq).2 _).trans (hc i hi)⟩
theorem KeysAt.new {w w' : World} {B : DspB} {z : DspG} {vk : Value} {ks : List ByteArray} (h : KeysAt w B z vk ks) (hc : Chg (fun _ => False) w w') : KeysAt w' B z vk ks := h.to (QTo.of_new hc)
theorem KeysAt.form {w : World} {B : DspB} {z : DspG} {vk : Value} {ks : List ByteArray} (h : KeysAt w B z vk ks) : ∃ a cap, vk = .slice a ks.length cap := by
  obtain ⟨a, cap, e, _⟩ := h
  exact ⟨a, cap, e⟩
theorem keysAt_read {w w' : World} {B : DspB} {z : DspG} {vk : Value} {ks : List ByteArray} (h : Strs w' w.heap.size vk ks) (hlt : ∀ q, z.own B q → q < w.heap.size) : KeysAt w' B z vk ks := by
  obtain ⟨a, cap, e, hx⟩ := h
  refine ⟨a, cap, e, ?_⟩
  rcases hx with hx | ⟨b, o, e2, hb, hc⟩
  · exact .inl hx
  · by_cases h0 : ks = []
    · exact .inl h0
    · have hpos : 0 < ks.length := List.length_pos_iff.2 h0
      exact .inr ⟨b, o, e2, ⟨cell_in (hc 0 hpos), fun hx => by have := hlt _ hx; omega⟩, hc⟩
theorem wf_id {n : Int} (h0 : 0 ≤ n) (h : n ≤ 2199023255552) : (Lit.int .i64 n).wf = true := by
  obtain ⟨k, rfl⟩ := Int.eq_ofNat_of_zero_le h0
  exact twf_nat k (by omega)
def mkQ (M : MsgM) (h : MdOk M) : QK := ⟨(M.topic, M.queue), ⟨by have := (topic_small h.top).2; show M.topic.size ≤ maxLen; unfold maxLen; omega, wf_id (by have := h.q0; omega) (by have := h.q2; omega)⟩⟩
structure EntJ (w0 w wr : World) (B : DspB) (z z' : DspG) (r : RcM) (hm : MdOk r.m) (j : Nat) : Prop where
  i : DspI w0 wr B z'
  qt : QTo w (z.own B) wr (z'.own B)
  x : z'.x = z.x
  c : z'.c = z.c
  b : z'.b = z.b
  k : z'.k = 1 + j
  L : ∃ x', z'.y.L = dropK z.y.L (mkQ r.m hm) ++ [(mkQ r.m hm, x')] ∧ x'.es = (lnD z.y.L (mkQ r.m hm)).es ++ [plR r] ∧ x'.base = (lnD z.y.L (mkQ r.m hm)).base ∧ x'.least = (lnD z.y.L (mkQ r.m hm)).least
  R : z'.y.R = ((keR r).take j).reverse ++ z.y.R
  n : z'.y.n = z.y.n + 2 + 2 * j
  size : z'.y.st.size = z.y.st.size + 20 + 20 * j
  cap : z'.y.st.cap = z.y.st.cap
theorem EntJ.new {w0 w wr wr' : World} {B : DspB} {z z' : DspG} {r : RcM} {hm : MdOk r.m} {j : Nat} (h : EntJ w0 w wr B z z' r hm j) (hc : Chg (fun _ => False) wr wr') : EntJ w0 w wr' B z z' r hm j := { h with i := h.i.new hc, qt := h.qt.trans (QTo.of_new hc) }
def EntTo (w0 w : World) (B : DspB) (z : DspG) (r : RcM) (hm : MdOk r.m) (e : Ending) (w' : World) : Prop := e = .returned (.int .i64 0) ∧ ∃ z', EntJ w0 w w' B z z' r hm r.m.keys.length
def EntM (w0 w W : World) (B : DspB) (z : DspG) (r : RcM) (hm : MdOk r.m) (b5 : Nat) (cs : Array Value) (vk : Value) : Prop := ∃ y' x', DspI w0 W B { z with y := y' } ∧ QTo w (z.own B) W (DspG.own B { z with y := y' }) ∧ y'.L = dropK z.y.L (mkQ r.m hm) ++ [(mkQ r.m hm, x')] ∧ y'.R = z.y.R ∧ y'.n = z.y.n + 2 ∧ y'.st.size = z.y.st.size + 20 ∧ y'.st.cap = z.y.st.cap ∧
  x'.base = (lnD z.y.L (mkQ r.m hm)).base ∧ x'.least = (lnD z.y.L (mkQ r.m hm)).least ∧ x'.es = (lnD z.y.L (mkQ r.m hm)).es ++ [plR r] ∧ Box W b5 cs ∧ KeysAt W B { z with y := y' } vk r.m.keys ∧ OutD W B { z with y := y' } b5
theorem EntM.of {w0 w W w3 : World} {B : DspB} {z : DspG} {r : RcM} {hm : MdOk r.m} {b5 : Nat} {cs : Array Value} {vk : Value} {e : Ending} (hi : DspI w0 W B z) (hw : Chg (fun _ => False) w W) (hb : Box W b5 cs) (hk : KeysAt W B z vk r.m.keys) (ho : OutD W B z b5) (ha : QAddTo w0 W B.qb z.y.mv z.y.g z.y.st z.y.n z.y.L (mkQ r.m hm) (plR r) e w3) :
    (∃ res : Int, e = .returned (.tuple #[.int .i64 res, .int .i64 0])) ∧ EntM w0 w w3 B z r hm b5 cs vk ∧ ∀ p, OutD W B z p → w3.heap[p]? = W.heap[p]? := by
  obtain ⟨y', x', he, hy, hq3, l1, l2, l3, l4, l5, l6, l7, l8, _⟩ := hi.qx.add ha
  obtain ⟨d1, d2⟩ := hi.cache hy hq3
  obtain ⟨o1, o2⟩ := ho.to d2
  exact ⟨⟨_, he⟩, ⟨y', x', d1, (QTo.of_new hw).trans d2, l1, l2, l3, l4, l5, l6, l7, l8, o2.trans hb, hk.to d2, o1⟩, fun p hp => (hp.to d2).2⟩
theorem EntM.told {w0 w W : World} {B : DspB} {z : DspG} {r : RcM} {hm : MdOk r.m} {b5 : Nat} {cs : Array Value} {vk : Value} (h : EntM w0 w W B z r hm b5 cs vk) (W' : World) (hW : W' = W.setCell ⟨B.db, 5, none⟩ (.int .i64 1)) : ∃ z', EntJ w0 w W' B z z' r hm 0 ∧ Box W' b5 cs ∧ KeysAt W' B z' vk r.m.keys ∧ OutD W' B z' b5 := by
  subst hW
  obtain ⟨y', x', d1, d2, l1, l2, l3, l4, l5, l6, l7, l8, hb, hk, ho⟩ := h
  obtain ⟨s1, s2⟩ := d1.set 5 (.int .i64 ((1 + 0 : Nat) : Int)) (c := z.c) (b := z.b) (k := 1 + 0) rfl
  exact ⟨_, ⟨s1, d2.trans s2, rfl, rfl, rfl, rfl, ⟨x', l1, l8, l6, l7⟩, l2, l3, l4, l5⟩, ((ho.to s2).2).trans hb, hk.to s2, (ho.to s2).1⟩
theorem EntM.cells {w0 w W : World} {B : DspB} {z : DspG} {r : RcM} {hm : MdOk r.m} {b5 : Nat} {cs : Array Value} {vk : Value} (h : EntM w0 w W B z r hm b5 cs vk) (hk : z.k = 0) : W.cell? ⟨B.db, 5, none⟩ = some (.int .i64 0) ∧ W.frozen? ⟨B.db, 5, none⟩ = false ∧ W.cell? ⟨B.db, 1, none⟩ = some (.pointer (some ⟨B.qb, 0, none⟩)) := by
  obtain ⟨y', x', d1, _⟩ := h
  obtain ⟨c0, c1, c2, c3, c4, c5, fz⟩ := d1.cells
  refine ⟨?_, fz 5, c1⟩
  rw [c5]
  show some (Value.int .i64 ((z.k : Nat) : Int)) = _
  rw [hk]
  rfl
def madeOf (w : World) (db : Nat) : Nat := (intOf ((w.cell? ⟨db, 5, none⟩).getD (.int .i64 0))).toNat
theorem EntJ.key {w0 w wr w' : World} {B : DspB} {z z' : DspG} {r : RcM} {hm : MdOk r.m} {j : Nat} {k : ByteArray} {e : Ending} (h : EntJ w0 w wr B z z' r hm j) (hk : r.m.keys[j]? = some k) (hid : r.id ≤ 1099511627776)
    (ha : KPutTo w0 wr B.xb z'.y.g z'.y.st z'.y.n (kaddR z'.y.R r.m.topic k (r.id : Int) r.m.born) (kaddE r.m.topic k (r.id : Int) r.m.born) e w') :
    e = .returned (.int .i64 0) ∧ ∃ z2, DspI w0 w' B z2 ∧ QTo wr (z'.own B) w' (z2.own B) ∧ z2.k = z'.k ∧ ∀ W, W = w'.setCell ⟨B.db, 5, none⟩ (.int .i64 ((1 + (j + 1) : Nat) : Int)) → ∃ z3, EntJ w0 w W B z z3 r hm (j + 1) ∧ QTo w' (z2.own B) W (z3.own B) := by
  have hkm := List.mem_of_getElem? hk
  obtain ⟨k1, k2⟩ := hm.key k hkm
  have hb0 := hm.b0
  have hb1 := hm.b1
  have hE : kaddE r.m.topic k (r.id : Int) r.m.born = 0 := by
    unfold kaddE
    rw [if_pos ⟨hm.top, k1⟩, if_pos ⟨⟨by omega, by omega⟩, hb0, hb1⟩]
  have hR : kaddR z'.y.R r.m.topic k (r.id : Int) r.m.born = ⟨numK r.m.topic k, r.id, r.m.born.toNat⟩ :: z'.y.R := by
    unfold kaddR
    rw [if_pos hE, Int.toNat_natCast]
  rw [hE, hR] at ha
  obtain ⟨y', he, hy, hto, a1, a2, a3, a4, a5, a6⟩ := h.i.qx.put ha
  rw [if_pos rfl] at a4
  obtain ⟨d1, d2⟩ := h.i.cache hy hto
  refine ⟨he, _, d1, d2, rfl, fun W hW => ?_⟩
  obtain ⟨s1, s2⟩ := d1.set 5 (.int .i64 ((1 + (j + 1) : Nat) : Int)) (c := z'.c) (b := z'.b) (k := 1 + (j + 1)) rfl
  rw [← hW] at s1 s2
  obtain ⟨x', l1, l2, l3, l4⟩ := h.L
  refine ⟨_, ⟨s1, (h.qt.trans d2).trans s2, h.x, h.c, h.b, rfl, ⟨x', a1.trans l1, l2, l3, l4⟩, ?_, ?_, ?_, a5.trans h.cap⟩, s2⟩
  · show y'.R = _
    have hk2 : (keR r)[j]? = some ⟨numK r.m.topic k, r.id, r.m.born.toNat⟩ := by unfold keR; rw [List.getElem?_map, hk]; rfl
    rw [a2, h.R, List.take_add_one, hk2, List.reverse_append]
    rfl
  · show y'.n = _
    rw [a3, h.n]; omega
  · show y'.st.size = _
    rw [a4, h.size]; omega
set_option maxHeartbeats 8000000 in
set_option maxRecDepth 100000 in
theorem denter_any {w0 w : World} {B : DspB} {z : DspG} {r : RcM} (hm : MdOk r.m) (h : DspI w0 w B z) (hk : z.k = 0) (vk : Value) (hks : KeysAt w B z vk r.m.keys) (hid : r.id ≤ 1099511627776) (hl1 : r.len ≤ 327) (hsz : (getK z.x.t.M (r.id : Int)).getD 0 = (r.len : Int))
    (hcap : z.y.st.size + 80 ≤ z.y.st.cap) (hn : z.y.n ≤ 90000) (hL : z.y.L.length ≤ 1000000) (hR : z.y.R.length ≤ 90000) :
    Calls Tryz.prog 62 #[.pointer (some ⟨B.db, 0, none⟩), .int .i64 (r.id : Int), r.m.val vk] w (EntTo w0 w B z r hm) := by
  obtain ⟨ka, kc, hva⟩ := hks.form
  obtain ⟨nk, hnk⟩ : ∃ n, n = r.m.keys.length := ⟨_, rfl⟩
  rw [← hnk] at hva
  have hnk3 : nk ≤ 3 := hnk ▸ hm.many
  obtain ⟨W0, hW0⟩ : ∃ W, W = w.alloc (.cells (r.m.cells vk) 46) := ⟨_, rfl⟩
  have hb0 : Below w.heap.size w W0 := hW0 ▸ (Below.refl _ _).alloc (Nat.le_refl _) _
  have hc0 : Chg (fun _ => False) w W0 := Chg.of_below hb0
  have hbx : Box W0 w.heap.size (r.m.cells vk) := hW0 ▸ Box.new w _
  have hi0 := h.new hc0
  have hks0 := hks.new hc0
  have hout : OutD W0 B z w.heap.size := ⟨hbx.lt, fun hx => by have := h.lt _ hx; omega⟩
  obtain ⟨c0, c1, c2, c3, c4, c5, fz⟩ := hi0.cells
  rw [hk] at c5
  have c5 : W0.cell? ⟨B.db, 5, none⟩ = some (.int .i64 0) := c5
  have HT : Hid (∀ W, Chg (fun _ => False) W0 W → Calls Tryz.prog 31 #[.pointer (some ⟨B.tb, 0, none⟩), .int .i64 (r.id : Int)] W fun e w' => e = .returned (.int .i64 (r.len : Int)) ∧ W = w') := Lib.hid (fun W hW => by
    have := tsize_any (hi0.new hW).tp.tg.tape (r.id : Int) (wf_id (by omega) (by omega))
    rw [hsz] at this
    exact this)
  have HH : Hid (∀ (W : World) (o : Nat), Strs W 0 (.slice (some ⟨o, 0, none⟩) 1 1) [r.m.tag] → Calls Tryz.prog 93 #[.slice (some ⟨o, 0, none⟩) 1 1] W fun e w' => e = .returned (.int .i64 (hashF 0 r.m.tag.data.toList : Nat)) ∧ W = w') := Lib.hid (fun W o hs => by
    have := hash_any _ _ W hs (by unfold maxLen; show 1 ≤ _; omega) (fun x hx => by rw [List.mem_singleton.1 hx]; have := hm.tag; unfold maxLen; omega)
    rw [show flatB [r.m.tag] = r.m.tag.data.toList from by simp [flatB]] at this
    exact this)
  have hfit := plR_fit hm hid hl1
  obtain ⟨q, hq⟩ : ∃ q : Nat, r.m.queue = (q : Int) := ⟨r.m.queue.toNat, by have := hm.q0; omega⟩
  have hq2 : q ≤ 2 := by have := hm.q2; omega
  have HA : Hid (∀ W, Chg (fun _ => False) W0 W → Calls Tryz.prog 112 #[.pointer (some ⟨B.qb, 0, none⟩), .string r.m.topic, .int .i64 r.m.queue, (plR r).val] W (QAddTo w0 W B.qb z.y.mv z.y.g z.y.st z.y.n z.y.L (mkQ r.m hm) (plR r))) := Lib.hid (fun W hW => by
    rw [hq]
    exact qadd_any (hi0.new hW).qx.q hL (by omega) (mkQ r.m hm) r.m.topic q rfl hq hm.top hq2 (plR r) hfit (by omega))
  obtain ⟨rid, rlen, m1, mq, m3, m4, m5, m6, m7, m8, m9, m10⟩ := r
  obtain ⟨db, tb, qb, xb⟩ := B
  subst hva
  unfold MsgM.val MsgM.cells at *
  unfold plR PlM.val at HA
  dsimp only at *
  obtain ⟨hh, hhh⟩ : ∃ x : Nat, x = hashF 0 m8.data.toList := ⟨_, rfl⟩
  rw [← hhh] at HH HA
  have HI0 := Lib.hid hi0
  have HKS := Lib.hid hks0
  have HOUT := Lib.hid hout
  have HBX := Lib.hid hbx
  have HW0 := Lib.hid hW0
  have HHH := Lib.hid hhh
  have HNK := Lib.hid hnk
  have k7 : W0.cell? ⟨w.heap.size, 7, none⟩ = some (.string m8) := hbx.cell 7
  have k5 : W0.cell? ⟨w.heap.size, 5, none⟩ = some (.int .i64 m6) := hbx.cell 5
  clear hbx hi0 hks0 hout hW0 hhh hnk hb0 hc0 hks h c1 c2 c3 c4 fz hq hq2 hfit
  go_enter Tryz.func62, Tryz.ntmps62
  go_upto_region 1 with fail
  rw [← HW0.out]
  go_upto_region 2 with fail
  go_cut [7] (fun v wx => ∃ b, v = .pointer (some ⟨b, 0, none⟩) ∧ W0.heap.size ≤ b ∧ Chg (fun _ => False) W0 wx ∧ wx.heap[b]? = some (.cells #[.int .i64 (rid : Int), .int .i64 (rlen : Int), .int .i64 (hh : Int), .int .i64 m6] 54 (0, 0)))
  case first =>
    refine region_last' (n := 97) rfl rfl (by kernel_rfl) (by kernel_rfl) 15 _ rfl rfl (by kernel_rfl) (fun i v w' => match i with | 0 => v = .int .i64 (rid : Int) | 1 => v = .pointer (some ⟨db, 0, none⟩) | 2 => v = .pointer (some ⟨db, 0, none⟩) | 3 => v = .pointer (some ⟨db, 0, none⟩) | 4 => v = .pointer (some ⟨tb, 0, none⟩) | 5 => v = .int .i64 (rid : Int) | 6 => v = .int .i64 (rlen : Int) | 7 => v = .pointer (some ⟨w.heap.size, 7, none⟩) | 8 => v = .string m8 | 9 => RStr m8 v w' | 10 => v = .int .i64 (hh : Int) | 11 => v = .pointer (some ⟨w.heap.size, 5, none⟩) | 12 => v = .int .i64 m6 | 13 => v = .agg #[.int .i64 (rid : Int), .int .i64 (rlen : Int), .int .i64 (hh : Int), .int .i64 m6] | 14 => RNew W0.heap.size #[.int .i64 0, .int .i64 0, .int .i64 0, .int .i64 0] 54 v w' | _ => True)
      (fun w' => Chg (fun _ => False) W0 w') (fun w1 w2 => Chg (fun _ => False) w1 w2) (fun _ => Chg.refl _ _) (by
        intro i v w1 w2 hg hr
        match i, hr with
        | 0, hr => exact hr
        | 1, hr => exact hr
        | 2, hr => exact hr
        | 3, hr => exact hr
        | 4, hr => exact hr
        | 5, hr => exact hr
        | 6, hr => exact hr
        | 7, hr => exact hr
        | 8, hr => exact hr
        | 9, hr => exact hr.keep hg
        | 10, hr => exact hr
        | 11, hr => exact hr
        | 12, hr => exact hr
        | 13, hr => exact hr
        | 14, hr => exact hr.keep hg
        | k + 15, hr => trivial)
      ((Chg.refl _ _).drew) ?_ ?_
    · intro i o hi ho
      match i, hi, ho with
      | 0, _, ho =>
        cases ho
        intro f w' hH hfr hp
        refine Eq.mpr (if_pos (by rfl)) ?_
        intro Kx hK
        have g1 : f 1 = .int .i64 (rid : Int) := hfr 1 (by kernel_rfl)
        clear hfr hp
        go_simp
        exact hK _ _ rfl hH (Chg.refl _ _)
      | 1, _, ho =>
        cases ho
        intro f w' hH hfr hp
        refine Eq.mpr (if_pos (by rfl)) ?_
        intro Kx hK
        have g0 : f 0 = .pointer (some ⟨db, 0, none⟩) := hfr 0 (by kernel_rfl)
        clear hfr hp
        go_simp
        exact hK _ _ rfl hH (Chg.refl _ _)
      | 2, _, ho =>
        cases ho
        intro f w' hH hfr hp
        refine Eq.mpr (if_pos (by rfl)) ?_
        intro Kx hK
        have g18 : f 18 = .pointer (some ⟨db, 0, none⟩) := hp 1 _ 18 rfl rfl (by kernel_rfl)
        clear hfr hp
        go_simp
        exact hK _ _ rfl hH (Chg.refl _ _)
      | 3, _, ho =>
        cases ho
        intro f w' hH hfr hp
        refine Eq.mpr (if_pos (by rfl)) ?_
        intro Kx hK
        have g19 : f 19 = .pointer (some ⟨db, 0, none⟩) := hp 2 _ 19 rfl rfl (by kernel_rfl)
        clear hfr hp
        go_simp
        exact hK _ _ rfl hH (Chg.refl _ _)
      | 4, _, ho =>
        cases ho
        intro f w' hH hfr hp
        refine Eq.mpr (if_pos (by rfl)) ?_
        intro Kx hK
        have g20 : f 20 = .pointer (some ⟨db, 0, none⟩) := hp 3 _ 20 rfl rfl (by kernel_rfl)
        clear hfr hp
        have c0 := hH.cell c0 (fun x => x)
        go_simp
        exact hK _ _ rfl hH (Chg.refl _ _)
      | 5, _, ho =>
        cases ho
        intro f w' hH hfr hp
        refine Eq.mpr (if_pos (by rfl)) ?_
        intro Kx hK
        have g1 : f 1 = .int .i64 (rid : Int) := hfr 1 (by kernel_rfl)
        clear hfr hp
        go_simp
        exact hK _ _ rfl hH (Chg.refl _ _)
      | 6, _, ho =>
        cases ho
        intro f w' hH hfr hp
        refine Eq.mpr (if_pos (by rfl)) ?_
        intro Kx hK
        have g21 : f 21 = .pointer (some ⟨tb, 0, none⟩) := hp 4 _ 21 rfl rfl (by kernel_rfl)
        have g22 : f 22 = .int .i64 (rid : Int) := hp 5 _ 22 rfl rfl (by kernel_rfl)
        clear hfr hp
        go_simp
        refine (HT.out w' hH).mono ?_
        rintro e w2 ⟨rfl, rfl⟩
        exact hK _ _ rfl hH (Chg.refl _ _)
      | 7, _, ho =>
        cases ho
        intro f w' hH hfr hp
        refine Eq.mpr (if_pos (by rfl)) ?_
        intro Kx hK
        have g5 : f 5 = .pointer (some ⟨w.heap.size, 0, none⟩) := hfr 5 (by kernel_rfl)
        clear hfr hp
        go_simp
        exact hK _ _ rfl hH (Chg.refl _ _)
      | 8, _, ho =>
        cases ho
        intro f w' hH hfr hp
        refine Eq.mpr (if_pos (by rfl)) ?_
        intro Kx hK
        have g24 : f 24 = .pointer (some ⟨w.heap.size, 7, none⟩) := hp 7 _ 24 rfl rfl (by kernel_rfl)
        clear hfr hp
        have k7 := hH.cell k7 (fun x => x)
        go_simp
        exact hK _ _ rfl hH (Chg.refl _ _)
      | 9, _, ho =>
        cases ho
        intro f w' hH hfr hp
        refine Eq.mpr (if_pos (by rfl)) ?_
        intro Kx hK
        have g25 : f 25 = .string m8 := hp 8 _ 25 rfl rfl (by kernel_rfl)
        clear hfr hp
        go_simp
        exact hK _ _ ⟨_, rfl, heap_alloc_new _ _⟩ (hH.trans (Chg.alloc _ (Chg.refl _ _) _) (fun _ _ x => x)) (Chg.alloc _ (Chg.refl _ _) _)
      | 10, _, ho =>
        cases ho
        intro f w' hH hfr hp
        refine Eq.mpr (if_pos (by rfl)) ?_
        intro Kx hK
        have r26 := hp 9 _ 26 rfl rfl (by kernel_rfl)
        clear hfr hp
        obtain ⟨o, g26, hst⟩ := RStr.strs r26
        rw [g26] at hst
        go_simp
        refine (HH.out w' o hst).mono ?_
        rintro e w2 ⟨rfl, rfl⟩
        exact hK _ _ rfl hH (Chg.refl _ _)
      | 11, _, ho =>
        cases ho
        intro f w' hH hfr hp
        refine Eq.mpr (if_pos (by rfl)) ?_
        intro Kx hK
        have g5 : f 5 = .pointer (some ⟨w.heap.size, 0, none⟩) := hfr 5 (by kernel_rfl)
        clear hfr hp
        go_simp
        exact hK _ _ rfl hH (Chg.refl _ _)
      | 12, _, ho =>
        cases ho
        intro f w' hH hfr hp
        refine Eq.mpr (if_pos (by rfl)) ?_
        intro Kx hK
        have g28 : f 28 = .pointer (some ⟨w.heap.size, 5, none⟩) := hp 11 _ 28 rfl rfl (by kernel_rfl)
        clear hfr hp
        have k5 := hH.cell k5 (fun x => x)
        go_simp
        exact hK _ _ rfl hH (Chg.refl _ _)
      | 13, _, ho =>
        cases ho
        intro f w' hH hfr hp
        refine Eq.mpr (if_pos (by rfl)) ?_
        intro Kx hK
        have g17 : f 17 = .int .i64 (rid : Int) := hp 0 _ 17 rfl rfl (by kernel_rfl)
        have g23 : f 23 = .int .i64 (rlen : Int) := hp 6 _ 23 rfl rfl (by kernel_rfl)
        have g27 : f 27 = .int .i64 (hh : Int) := hp 10 _ 27 rfl rfl (by kernel_rfl)
        have g29 : f 29 = .int .i64 m6 := hp 12 _ 29 rfl rfl (by kernel_rfl)
        clear hfr hp
        go_simp
        exact hK _ _ rfl hH (Chg.refl _ _)
      | 14, _, ho =>
        cases ho
        intro f w' hH hfr hp
        refine Eq.mpr (if_pos (by rfl)) ?_
        intro Kx hK
        clear hfr hp
        go_simp
        exact hK _ _ ⟨_, rfl, hH.size, heap_alloc_new _ _⟩ (hH.trans (Chg.alloc _ (Chg.refl _ _) _) (fun _ _ x => x)) (Chg.alloc _ (Chg.refl _ _) _)
      | k + 15, hi, ho => exact absurd ho (by cases k with | zero => exact absurd rfl hi | succ k => intro h; cases h)
    · intro f w' hH hfr hR
      have g30 : f 30 = .agg #[.int .i64 (rid : Int), .int .i64 (rlen : Int), .int .i64 (hh : Int), .int .i64 m6] := hR 13 _ 30 (by decide) rfl rfl
      obtain ⟨b, g7, hb, hblk⟩ := hR 14 _ 7 (by decide) rfl rfl
      have hback := Lib.hid (fr_back (n := 97) (f := f) (D := [7, 17, 18, 19, 20, 21, 22, 23, 24, 25, 26, 27, 28, 29, 30]) rfl (by kernel_rfl) hfr)
      have z0 : w'.cell? ⟨b, 0, none⟩ = some (.int .i64 0) := by simp [World.cell?, hblk]
      have z1 : w'.cell? ⟨b, 1, none⟩ = some (.int .i64 0) := by simp [World.cell?, hblk]
      have z2 : w'.cell? ⟨b, 2, none⟩ = some (.int .i64 0) := by simp [World.cell?, hblk]
      have z3 : w'.cell? ⟨b, 3, none⟩ = some (.int .i64 0) := by simp [World.cell?, hblk]
      have y : ∀ i, w'.frozen? ⟨b, i, none⟩ = false := fun i => by simp [World.frozen?, hblk]
      clear hR hfr
      go_simp
      rw [hback.out]
      simp only [mixL, List.elem_eq_contains, List.contains_cons, List.contains_nil, Nat.reduceBEq, Nat.reduceAdd, Bool.or_false, Bool.or_true, Bool.false_or, Bool.true_or, cond_false, cond_true, Bool.or_self, Nat.zero_add, g7]
      go_wp2_with fail
      go_meet
      case rel =>
        obtain ⟨s1, s2⟩ := set4_new hH hb hblk (.int .i64 (rid : Int)) (.int .i64 (rlen : Int)) (.int .i64 (hh : Int)) (.int .i64 m6)
        exact ⟨b, rfl, hb, s1, s2⟩
  case rest =>
    obtain ⟨b, rfl, hb, hcx, hblk⟩ := hcut
    have hIx := HI0.out.new hcx
    obtain ⟨c0, c1, c2, c3, c4, c5', fz⟩ := hIx.cells
    dsimp only at c0 c1 c2 c3 c4 c5'
    have hBx : Box wc w.heap.size _ := hcx.heap HBX.out (fun x => x)
    have k6 : wc.cell? ⟨w.heap.size, 6, none⟩ = some (.string m7) := hBx.cell 6
    have k1 : wc.cell? ⟨w.heap.size, 1, none⟩ = some (.int .i64 mq) := hBx.cell 1
    have n0 : wc.cell? ⟨b, 0, none⟩ = some (.int .i64 (rid : Int)) := by rw [Lib.cell_of_heap hblk]; rfl
    have n1 : wc.cell? ⟨b, 1, none⟩ = some (.int .i64 (rlen : Int)) := by rw [Lib.cell_of_heap hblk]; rfl
    have n2 : wc.cell? ⟨b, 2, none⟩ = some (.int .i64 (hh : Int)) := by rw [Lib.cell_of_heap hblk]; rfl
    have n3 : wc.cell? ⟨b, 3, none⟩ = some (.int .i64 m6) := by rw [Lib.cell_of_heap hblk]; rfl
    have HOB : Hid (OutD wc ⟨db, tb, qb, xb⟩ z b) := Lib.hid ⟨(Array.getElem?_eq_some_iff.1 hblk).1, fun hx => by have := HI0.out.lt _ hx; omega⟩
    have HOX : Hid (OutD wc ⟨db, tb, qb, xb⟩ z w.heap.size) := Lib.hid (HOUT.out.new hcx)
    have HCX := Lib.hid hcx
    have HBL := Lib.hid hblk
    have hW1 : Chg (fun _ => False) w W0 := HW0.out ▸ Chg.alloc _ (Chg.refl _ _) _
    have HA2 : Hid (∀ W, Chg (fun _ => False) W0 W → Calls Tryz.prog 112 #[.pointer (some ⟨qb, 0, none⟩), .string m7, .int .i64 mq, .agg #[.int .i64 (rid : Int), .int .i64 (rlen : Int), .int .i64 (hh : Int), .int .i64 m6]] W fun e w' => (∃ res : Int, e = .returned (.tuple #[.int .i64 res, .int .i64 0])) ∧
        EntM w0 w w' ⟨db, tb, qb, xb⟩ z ⟨rid, rlen, ⟨m1, mq, m3, m4, m5, m6, m7, m8, m9, m10⟩⟩ hm w.heap.size #[.int .i64 m1, .int .i64 mq, .int .i64 m3, .int .i64 m4, .int .i64 m5, .int .i64 m6, .string m7, .string m8, .string m9, .slice ka nk kc] (.slice ka nk kc) ∧ ∀ p, OutD W ⟨db, tb, qb, xb⟩ z p → w'.heap[p]? = W.heap[p]?) := Lib.hid (fun W hW => (HA.out W hW).mono fun e w3 hto => by
      rw [HHH.out] at hto
      exact EntM.of (b5 := w.heap.size) (vk := .slice ka nk kc) (r := ⟨rid, rlen, ⟨m1, mq, m3, m4, m5, m6, m7, m8, m9, m10⟩⟩) (hm := hm) (HI0.out.new hW) (hW1.trans hW (fun _ _ x => x)) (hW.heap HBX.out (fun x => x)) (HKS.out.new hW) (HOUT.out.new hW) hto)
    clear hblk hcx hIx hBx c0 c2 c3 c4 c5' fz k7 k5
    go_upto_region 3 with fail
    go_cut [8, 9] (fun v8 v9 wx => (∃ res : Int, v8 = .int .i64 res) ∧ v9 = .int .i64 0 ∧ EntM w0 w wx ⟨db, tb, qb, xb⟩ z ⟨rid, rlen, ⟨m1, mq, m3, m4, m5, m6, m7, m8, m9, m10⟩⟩ hm w.heap.size #[.int .i64 m1, .int .i64 mq, .int .i64 m3, .int .i64 m4, .int .i64 m5, .int .i64 m6, .string m7, .string m8, .string m9, .slice ka nk kc] (.slice ka nk kc))
    case first =>
      go_region_held3 (fun w' => w'.cell? ⟨db, 1, none⟩ = some (.pointer (some ⟨qb, 0, none⟩)) ∧ w'.cell? ⟨w.heap.size, 6, none⟩ = some (.string m7) ∧ w'.cell? ⟨w.heap.size, 1, none⟩ = some (.int .i64 mq) ∧ w'.cell? ⟨b, 0, none⟩ = some (.int .i64 (rid : Int)) ∧ w'.cell? ⟨b, 1, none⟩ = some (.int .i64 (rlen : Int)) ∧ w'.cell? ⟨b, 2, none⟩ = some (.int .i64 (hh : Int)) ∧ w'.cell? ⟨b, 3, none⟩ = some (.int .i64 m6))
        (first | exact ⟨c1, k6, k1, n0, n1, n2, n3⟩ | go_keep)
        (first
          | (go_at_call 112
             refine (HA2.out _ ?_).mono ?_
             · repeat (first | exact HCX.out | with_reducible refine Chg.drew ?_ | with_reducible refine Chg.drewN ?_ _)
             rintro e w3 ⟨⟨res, rfl⟩, hE, hO⟩
             have hq1 := hE.cells hk
             have c1 := hq1.2.2
             dsimp only at c1
             have hOb := hO w.heap.size HOX.out
             have k6 := (cell_of_block hOb 6).trans k6
             have k1 := (cell_of_block hOb 1).trans k1
             have hOc := hO b HOB.out
             have n0 := (cell_of_block hOc 0).trans n0
             have n1 := (cell_of_block hOc 1).trans n1
             have n2 := (cell_of_block hOc 2).trans n2
             have n3 := (cell_of_block hOc 3).trans n3
             have HE := Lib.hid hE
             clear hq1 hO hOb hOc hE))
      all_goals
        go_wp2_with fail
        go_meet
        case rel => exact ⟨⟨_, rfl⟩, rfl, by repeat (first | exact HE.out | with_reducible refine EntM.new ?_ (Chg.refl _ _).drew)⟩
    case rest =>
      obtain ⟨⟨res, rfl⟩, rfl, hE⟩ := hcut
      obtain ⟨v5, f5, _⟩ := hE.cells hk
      dsimp only at v5 f5
      obtain ⟨z4, hJ, hb4, hk4, ho4⟩ := hE.told (wc.setCell ⟨db, 5, none⟩ (.int .i64 1)) rfl
      have HJ := Lib.hid hJ
      have HB4 := Lib.hid hb4
      have HK4 := Lib.hid hk4
      have HO4 := Lib.hid ho4
      have hidb : rid ≤ 1099511627776 := hid
      clear hE hJ hb4 hk4 ho4 hsz c5 c0
      go_wp2_with fail
      go_loopw [10] (fun _ wr => ∃ (j : Nat) (z' : DspG), j ≤ nk ∧ Hid (EntJ w0 w wr ⟨db, tb, qb, xb⟩ z z' ⟨rid, rlen, ⟨m1, mq, m3, m4, m5, m6, m7, m8, m9, m10⟩⟩ hm j) ∧ Hid (Box wr w.heap.size #[.int .i64 m1, .int .i64 mq, .int .i64 m3, .int .i64 m4, .int .i64 m5, .int .i64 m6, .string m7, .string m8, .string m9, .slice ka nk kc]) ∧ Hid (KeysAt wr ⟨db, tb, qb, xb⟩ z' (.slice ka nk kc) m10) ∧ Hid (OutD wr ⟨db, tb, qb, xb⟩ z' w.heap.size)) (fun _ wr => nk + 2 - madeOf wr db)
      case atStart => exact ⟨0, z4, Nat.zero_le _, HJ, HB4, HK4, HO4⟩
      case round =>
        obtain ⟨j, z', hj, HJ, HB, HK, HO⟩ := hrel
        obtain ⟨c0, c1, c2, c3, c4, c5, fz⟩ := HJ.out.i.cells
        rw [HJ.out.k] at c5
        dsimp only at c0 c1 c2 c3 c4 c5
        obtain ⟨jj, hjj⟩ : ∃ x : Int, x = ((1 + j : Nat) : Int) := ⟨_, rfl⟩
        rw [← hjj] at c5
        have k9 : wr.cell? ⟨w.heap.size, 9, none⟩ = some (.slice ka nk kc) := HB.out.cell 9
        have k6 : wr.cell? ⟨w.heap.size, 6, none⟩ = some (.string m7) := HB.out.cell 6
        have k5 : wr.cell? ⟨w.heap.size, 5, none⟩ = some (.int .i64 m6) := HB.out.cell 5
        have hmade : madeOf wr db = 1 + j := by unfold madeOf; rw [c5, hjj]; show (((1 + j : Nat) : Int)).toNat = _; omega
        have HMD := Lib.hid hmade
        clear hmade
        have HJJ := Lib.hid hjj
        by_cases hjn : j < nk
        · have g1 : jj ≤ (nk : Int) := by omega
          have e3 : IntKind.i64.wrap (jj + 1) = ((1 + (j + 1) : Nat) : Int) := by rw [IntWalk.i64_in _ (by omega)]; omega
          have e1 : jj - 1 = (j : Int) := by omega
          have e2 : IntKind.i64.wrap (j : Int) = (j : Int) := IntWalk.i64_in _ (by omega)
          clear hjj
          have hjk : j < m10.length := by rw [← HNK.out]; exact hjn
          obtain ⟨key, hkey⟩ : ∃ key, m10[j]? = some key := ⟨_, List.getElem?_eq_getElem hjk⟩
          obtain ⟨a', cap', e', hx⟩ := HK.out
          rcases hx with hx | ⟨kb, ko, hka, hob, hcell⟩
          · rw [hx] at hjk; simp at hjk
          have hkc := hcell j hjk
          rw [List.getD_eq_getElem?_getD, hkey, Option.getD_some] at hkc
          injection e' with q1 q2 q3
          subst q1
          subst hka
          clear q2 q3 hcell hob
          have g2 : (j : Int) < (nk : Int) := by omega
          have g3 : (0 : Int) ≤ (j : Int) := by omega
          have hmk := hm.key key (List.mem_of_getElem? hkey)
          have htop : m7.size ≤ 16 := (topic_small hm.top).2
          have hkz : key.size ≤ 16 := hmk.2
          have hcap2 := HJ.out.size
          have hcap3 := HJ.out.cap
          have hn2 := HJ.out.n
          have hR2 := HJ.out.R
          have hRl : z'.y.R.length ≤ 100000 := by
            rw [hR2, List.length_append, List.length_reverse, List.length_take]
            have : (min j (keR ⟨rid, rlen, ⟨m1, mq, m3, m4, m5, m6, m7, m8, m9, m10⟩⟩).length) ≤ j := Nat.min_le_left _ _
            omega
          have HX : Hid (∀ W, Chg (fun _ => False) wr W → Calls Tryz.prog 113 #[.pointer (some ⟨xb, 0, none⟩), .string m7, .string key, .int .i64 (rid : Int), .int .i64 m6] W fun e w' => e = .returned (.int .i64 0) ∧ ∃ z2, DspI w0 w' ⟨db, tb, qb, xb⟩ z2 ∧ QTo W (z'.own ⟨db, tb, qb, xb⟩) w' (z2.own ⟨db, tb, qb, xb⟩) ∧ z2.k = z'.k ∧ ∀ W2, W2 = w'.setCell ⟨db, 5, none⟩ (.int .i64 ((1 + (j + 1) : Nat) : Int)) → ∃ z3, EntJ w0 w W2 ⟨db, tb, qb, xb⟩ z z3 ⟨rid, rlen, ⟨m1, mq, m3, m4, m5, m6, m7, m8, m9, m10⟩⟩ hm (j + 1) ∧ QTo w' (z2.own ⟨db, tb, qb, xb⟩) W2 (z3.own ⟨db, tb, qb, xb⟩)) := Lib.hid (fun W hW => by
            have hJ := HJ.out.new hW
            refine (kput_any hJ.i.qx.x (by omega) hRl (by omega) m7 key (by unfold maxLen; omega) (by unfold maxLen; omega) (rid : Int) m6).mono ?_
            intro e w' ha
            exact hJ.key hkey hidb ha)
          have HZ2 : Hid (z'.k = 1 + j) := Lib.hid HJ.out.k
          have hqx : wr.cell? ⟨db, 5, none⟩ = some (.int .i64 jj) := c5
          clear hmk htop hkz hcap2 hcap3 hn2 hR2 hRl hjk hkey c0 c1 c3 c4 fz
          go_wp2_with fail
          go_quiet (fail)
          go_wp2_with fail
          have c2 : (wr.drewN nq).cell? ⟨db, 2, none⟩ = some (.pointer (some ⟨xb, 0, none⟩)) := c2
          have c5 : (wr.drewN nq).cell? ⟨db, 5, none⟩ = some (.int .i64 jj) := c5
          have k6 : (wr.drewN nq).cell? ⟨w.heap.size, 6, none⟩ = some (.string m7) := k6
          have k9 : (wr.drewN nq).cell? ⟨w.heap.size, 9, none⟩ = some (.slice (some ⟨kb, ko, none⟩) nk kc) := k9
          have k5 : (wr.drewN nq).cell? ⟨w.heap.size, 5, none⟩ = some (.int .i64 m6) := k5
          have hkc : (wr.drewN nq).cell? ⟨kb, ko + j, none⟩ = some (.string key) := hkc
          have HCW : Hid (Chg (fun _ => False) wr (wr.drewN nq)) := Lib.hid ((Chg.refl _ _).drewN nq)
          clear hqx
          generalize wr.drewN nq = W1 at c2 c5 k6 k9 k5 hkc HCW ⊢
          go_still_tail 19, (by kernel_rfl)
          repeat still_step
          change wpList _ _ _ _ _ W1.drew
          have HC2 : Hid (Chg (fun _ => False) wr W1.drew) := Lib.hid HCW.out.drew
          clear c2 c5 k6 k9 k5 hkc
          generalize W1.drew = W2 at HC2 ⊢
          have HX2 := Lib.hid (HX.out W2 HC2.out)
          go_wp2_with fail
          refine HX2.out.mono ?_
          rintro e w5 ⟨rfl, z2, d2, q2, k2, hfin⟩
          obtain ⟨c0, c1, c2, c3, c4, c5, fz⟩ := d2.cells
          rw [k2, HZ2.out, ← HJJ.out] at c5
          dsimp only at c5 fz
          have f5 := fz 5
          obtain ⟨j1, hj1⟩ : ∃ x : Int, x = ((1 + (j + 1) : Nat) : Int) := ⟨_, rfl⟩
          rw [← hj1] at e3 hfin
          have HJ1 := Lib.hid hj1
          clear hj1
          obtain ⟨z3, h3, q3⟩ := hfin _ rfl
          obtain ⟨oa, ob⟩ := (HO.out.new HC2.out).to q2
          obtain ⟨oc, od⟩ := oa.to q3
          have HJ3 := Lib.hid h3
          have HB3 : Hid (Box (w5.setCell ⟨db, 5, none⟩ (.int .i64 j1)) w.heap.size #[.int .i64 m1, .int .i64 mq, .int .i64 m3, .int .i64 m4, .int .i64 m5, .int .i64 m6, .string m7, .string m8, .string m9, .slice (some ⟨kb, ko, none⟩) nk kc]) := Lib.hid ((od.trans ob).trans (HC2.out.heap HB.out (fun x => x)))
          have HK3 := Lib.hid (((HK.out.new HC2.out).to q2).to q3)
          have HO3 := Lib.hid oc
          have hm3 : madeOf (w5.setCell ⟨db, 5, none⟩ (.int .i64 j1)) db = 1 + (j + 1) := by
            have c := h3.i.cells.2.2.2.2.2.1
            rw [h3.k] at c
            unfold madeOf
            dsimp only at c
            rw [c]
            show (((1 + (j + 1) : Nat) : Int)).toNat = _
            omega
          have HM3 := Lib.hid hm3
          clear hm3 h3 q3 oa ob oc od hfin d2 q2 c0 c1 c2 c3 c4 fz
          go_wp2_with fail
          exact ⟨⟨j + 1, z3, by omega, HJ3, HB3, HK3, HO3⟩, by rw [HM3.out, HMD.out]; omega⟩
        · have hje : j = nk := by omega
          have g1 : ¬ jj ≤ (nk : Int) := by omega
          have HD : Hid (EntTo w0 w ⟨db, tb, qb, xb⟩ z ⟨rid, rlen, ⟨m1, mq, m3, m4, m5, m6, m7, m8, m9, m10⟩⟩ hm (.returned (.int .i64 0)) wr) := Lib.hid ⟨rfl, z', by show EntJ _ _ _ _ _ _ _ _ m10.length; rw [← HNK.out, ← hje]; exact HJ.out⟩
          clear hje hjn hjj
          go_wp2_with fail
          go_quiet (fail)
          go_wp2_with fail
          go_ret
          obtain ⟨_, z5, h5⟩ := HD.out
          exact ⟨rfl, z5, h5.new ((Chg.refl _ _).drewN nq)⟩
end Go.Proofs.YtdnhgodfmjapmaaGreatDoor
namespace Go.Proofs.YtdnhgodfmjapmaaGreatDoor
open Go.RowKit Go.Deep
def nxt (rs : List RcM) (c : Nat) : List RcM := rs.filter fun r => decide (c ≤ r.id)
theorem drop_low : ∀ {l : List Int} (h : l.Pairwise (· < ·)) (a : Int), l.drop (lowN l a) = l.filter (fun x => decide (a ≤ x))
  | [], _, _ => by simp [lowN]
  | x :: l, h, a => by
    obtain ⟨h1, h2⟩ := List.pairwise_cons.1 h
    have ih := drop_low h2 a
    unfold lowN at ih ⊢
    rw [List.countP_cons, List.filter_cons]
    by_cases hx : x < a
    · rw [if_pos (by simpa using hx), if_neg (by simpa using hx), List.drop_succ_cons]
      exact ih
    · have h0 : l.countP (· < a) = 0 := List.countP_eq_zero.2 fun y hy => by
        have := h1 y hy
        simp
        omega
      rw [if_neg (by simpa using hx), if_pos (by simp; omega), h0]
      show x :: l = _
      congr 1
      exact (List.filter_eq_self.2 fun y hy => by have := h1 y hy; simp; omega).symm
theorem nxt_ids {p : Nat} {l : List (MsgM × List UInt8)} (hl : LaidAt p l) (c : Nat) : ((notesI p l).map (·.1)).drop (lowN ((notesI p l).map (·.1)) (c : Int)) = (nxt (recsI p l) c).map fun r => (r.id : Int) := by
  rw [drop_low (notesI_sorted hl), recsI_ids]
  unfold nxt
  rw [List.filter_map]
  congr 1
  congr 1
  funext r
  simp
theorem nxt_sub {rs : List RcM} {c : Nat} : ∀ r ∈ nxt rs c, r ∈ rs ∧ c ≤ r.id := fun r hr => by
  obtain ⟨h1, h2⟩ := List.mem_filter.1 hr
  exact ⟨h1, by simpa using h2⟩
theorem nxt_next : ∀ {rs : List RcM} (h : rs.Pairwise (fun a b => a.id + a.len ≤ b.id)) (hp : ∀ r ∈ rs, 0 < r.len) {c : Nat} {r : RcM} {rest : List RcM}, nxt rs c = r :: rest → nxt rs (r.id + r.len) = rest
  | [], _, _, _, _, _, e => by cases e
  | x :: rs, h, hp, c, r, rest, e => by
    obtain ⟨h1, h2⟩ := List.pairwise_cons.1 h
    unfold nxt at e ⊢
    rw [List.filter_cons] at e ⊢
    by_cases hx : c ≤ x.id
    · rw [if_pos (by simpa using hx)] at e
      injection e with e1 e2
      subst e1
      have := hp x (List.mem_cons_self ..)
      rw [if_neg (by simp; omega)]
      have a1 : rs.filter (fun r => decide (x.id + x.len ≤ r.id)) = rs := List.filter_eq_self.2 fun y hy => by have := h1 y hy; simp; omega
      have a2 : rs.filter (fun r => decide (c ≤ r.id)) = rs := List.filter_eq_self.2 fun y hy => by have := h1 y hy; simp; omega
      rw [a1, ← e2, a2]
    · rw [if_neg (by simpa using hx)] at e
      have hm : r ∈ rs := (nxt_sub (rs := rs) (c := c) r (by unfold nxt; rw [e]; exact List.mem_cons_self ..)).1
      have := h1 r hm
      have := hp r (List.mem_cons_of_mem _ hm)
      rw [if_neg (by simp; omega)]
      exact nxt_next h2 (fun y hy => hp y (List.mem_cons_of_mem _ hy)) e
structure LookP (z z' : DspG) (r : RcM) : Prop where
  x : z'.x = z.x
  c : z'.c = z.c
  no : isMD r.m = false → z' = z
  yes : isMD r.m = true → ∀ hm : MdOk r.m, z'.b = r.id ∧ (∃ x', z'.y.L = dropK z.y.L (mkQ r.m hm) ++ [(mkQ r.m hm, x')] ∧ x'.es = (lnD z.y.L (mkQ r.m hm)).es ++ [plR r] ∧ x'.base = (lnD z.y.L (mkQ r.m hm)).base ∧ x'.least = (lnD z.y.L (mkQ r.m hm)).least) ∧
    z'.y.R = (keR r).reverse ++ z.y.R ∧ z'.y.n = z.y.n + 2 * (1 + r.m.keys.length) ∧ z'.y.st.size = z.y.st.size + 20 * (1 + r.m.keys.length)
  cap : z'.y.st.cap = z.y.st.cap
structure DspN (z : DspG) (D : List RcM) : Prop where
  rel : QRel z.y.L D
  kd : z.y.R = keD D
  bg : z.k = 0 ∨ z.b < z.c
  ln : ∀ p ∈ z.y.L, p.2.base = 0 ∧ p.2.least = 0
  size : z.y.st.size ≤ 24 + 20 * manyD D
  n : z.y.n ≤ 3 + 2 * manyD D
  md : ∀ r ∈ D, MdOk r.m
theorem manyD_le {D : List RcM} (h : ∀ r ∈ D, MdOk r.m) : manyD D ≤ 4 * D.length := by
  unfold manyD
  induction D with
  | nil => exact Nat.le_refl _
  | cons r D ih =>
    have h1 := (h r (List.mem_cons_self ..)).many
    have := ih fun x hx => h x (List.mem_cons_of_mem _ hx)
    rw [List.map_cons, List.sum_cons, List.length_cons]
    omega
def mdL (r : RcM) : List RcM := if isMD r.m = true then [r] else []
theorem lnD_zero {L : List (QK × LnM)} (h : ∀ p ∈ L, p.2.base = 0 ∧ p.2.least = 0) (k : QK) : (lnD L k).base = 0 ∧ (lnD L k).least = 0 := by
  unfold lnD
  cases hg : getK L k with
  | none => exact ⟨rfl, rfl⟩
  | some x => exact h _ (getK_mem hg)
theorem DspN.look {z z1 : DspG} {D : List RcM} {r : RcM} {cm : Nat} (h : DspN z D) (hk : (z.y.L.map (·.1)).Nodup) (hp : LookP { z with c := cm } z1 r) (hok : isMD r.m = true → MdOk r.m) (hc : z.c ≤ cm) (hcr : cm ≤ r.id) (hl : 0 < r.len) : DspN { z1 with c := r.id + r.len } (D ++ mdL r) := by
  unfold mdL
  cases hm : isMD r.m with
  | false =>
    have e := hp.no hm
    subst e
    rw [if_neg (by simp), List.append_nil]
    exact ⟨h.rel, h.kd, h.bg.imp id (fun a => by show z.b < r.id + r.len; omega), h.ln, h.size, h.n, h.md⟩
  | true =>
    have hmo := hok hm
    obtain ⟨a1, ⟨x', l1, l2, l3, l4⟩, a2, a3, a4⟩ := hp.yes hm hmo
    rw [if_pos rfl]
    refine ⟨?_, ?_, .inr (by show z1.b < _; rw [a1]; show r.id < r.id + r.len; omega), ?_, ?_, ?_, ?_⟩
    · show QRel z1.y.L _
      rw [l1]
      exact h.rel.add hk rfl rfl l2
    · show z1.y.R = _
      rw [a2, keD_snoc]
      show _ ++ z.y.R = _
      rw [h.kd]
    · show ∀ p ∈ z1.y.L, _
      rw [l1]
      intro p hp2
      rcases List.mem_append.1 hp2 with b | b
      · exact h.ln p (List.mem_filter.1 b).1
      · rw [List.mem_singleton] at b
        subst b
        have := lnD_zero h.ln (mkQ r.m hmo)
        exact ⟨l3.trans this.1, l4.trans this.2⟩
    · show z1.y.st.size ≤ _
      rw [a4, manyD_snoc]
      have := h.size
      show z.y.st.size + _ ≤ _
      omega
    · show z1.y.n ≤ _
      rw [a3, manyD_snoc]
      have := h.n
      show z.y.n + _ ≤ _
      omega
    · intro x hx
      rcases List.mem_append.1 hx with b | b
      · exact h.md x b
      · rw [List.mem_singleton] at b
        subst b
        exact hmo
def LookTo (w0 w : World) (B : DspB) (z : DspG) (r : RcM) (e : Ending) (w' : World) : Prop := e = .returned (.int .i64 0) ∧ ∃ z', DspI w0 w' B z' ∧ QTo w (z.own B) w' (z'.own B) ∧ LookP z z' r
theorem EntJ.look {w0 w1 w' : World} {B : DspB} {z z1 z2 : DspG} {r : RcM} {hm : MdOk r.m} (h : EntJ w0 w1 w' B z1 z2 r hm r.m.keys.length) (h1 : z1.x = z.x) (h2 : z1.c = z.c) (h3 : z1.y = z.y) (hb : z1.b = r.id) (hmd : isMD r.m = true) : LookP z z2 r := by
  obtain ⟨x', l1, l2, l3, l4⟩ := h.L
  have hR := h.R
  have hn := h.n
  have hs := h.size
  have hc := h.cap
  rw [h3] at l1 l2 l3 l4 hR hn hs hc
  rw [show (keR r).take r.m.keys.length = keR r from List.take_of_length_le (by unfold keR; rw [List.length_map]; exact Nat.le_refl _)] at hR
  exact ⟨h.x.trans h1, h.c.trans h2, fun hx => (by rw [hmd] at hx; cases hx), fun _ _ => ⟨h.b.trans hb, ⟨x', l1, l2, l3, l4⟩, hR, by rw [hn]; omega, by rw [hs]; omega⟩, hc⟩
theorem DspI.begun {w0 w : World} {B : DspB} {z : DspG} (h : DspI w0 w B z) (b : Nat) : ∀ W, W = (w.setCell ⟨B.db, 4, none⟩ (.int .i64 (b : Int))).setCell ⟨B.db, 5, none⟩ (.int .i64 0) → DspI w0 W B { z with b := b, k := 0 } ∧ QTo w (z.own B) W (DspG.own B { z with b := b, k := 0 }) := by
  rintro W rfl
  obtain ⟨s1, s2⟩ := h.set 4 (.int .i64 (b : Int)) (c := z.c) (b := b) (k := z.k) rfl
  obtain ⟨s3, s4⟩ := s1.set 5 (.int .i64 ((0 : Nat) : Int)) (c := z.c) (b := b) (k := 0) rfl
  exact ⟨s3, s2.trans s4⟩
structure OnTape (z : DspG) (r : RcM) : Prop where
  mem : r ∈ recsI (1024 * z.x.i0) z.x.l
  end_ : 1024 * z.x.i0 + (bytesI z.x.l).length ≤ 1000000000
theorem OnTape.size {w0 w : World} {B : DspB} {z : DspG} {r : RcM} (h : OnTape z r) (hi : DspI w0 w B z) : (getK z.x.t.M (r.id : Int)).getD 0 = (r.len : Int) := by
  have h1 : ((r.id : Int), (r.len : Int), r.m.born) ∈ notesI (1024 * z.x.i0) z.x.l := by
    rw [recsI_notes]
    exact List.mem_map.2 ⟨r, h.mem, rfl⟩
  rw [hi.tp.tn.siz _ h1]
  rfl
theorem OnTape.put {w0 w : World} {B : DspB} {z : DspG} {r : RcM} (h : OnTape z r) (hi : DspI w0 w B z) : r.m.kind ≠ 0 ∧ ∃ bs, putO r.m = some bs ∧ r.len = bs.length ∧ 3 ≤ r.len ∧ r.len ≤ 327 ∧ 1024 * z.x.i0 ≤ r.id ∧ r.id + r.len ≤ 1024 * z.x.i0 + (bytesI z.x.l).length := recsI_put hi.tp.la' r h.mem
theorem OnTape.md {w0 w : World} {B : DspB} {z : DspG} {r : RcM} (h : OnTape z r) (hi : DspI w0 w B z) (hm : isMD r.m = true) : MdOk r.m := by
  obtain ⟨_, bs, hp, _⟩ := h.put hi
  exact md_ok hp hm
theorem OnTape.read {w0 w : World} {B : DspB} {z : DspG} {r : RcM} (h : OnTape z r) (hi : DspI w0 w B z) : Calls Tryz.prog 19 #[.pointer (some ⟨B.tb, 0, none⟩), .int .i64 (r.id : Int)] w (ReadTo r.m 0 w) := by
  obtain ⟨l1, bs, l2, e1, e2, e3, e4⟩ := recsI_split r h.mem
  have ht := hi.tp
  unfold TpI at ht
  have he := h.end_
  rw [e1] at ht he
  rw [bytesI_app, List.length_append] at he
  rw [e3]
  exact ht.read e2 (by omega)
set_option maxHeartbeats 8000000 in
set_option maxRecDepth 100000 in
theorem dlook_any {w0 w : World} {B : DspB} {z : DspG} {r : RcM} (h : DspI w0 w B z) (hr : OnTape z r) (hbg : z.k = 0 ∨ z.b ≠ r.id)
    (hcap : z.y.st.size + 80 ≤ z.y.st.cap) (hn : z.y.n ≤ 90000) (hL : z.y.L.length ≤ 1000000) (hR : z.y.R.length ≤ 90000) :
    Calls Tryz.prog 30 #[.pointer (some ⟨B.db, 0, none⟩), .int .i64 (r.id : Int)] w (LookTo w0 w B z r) := by
  obtain ⟨hk0, bs, hput, hlen, hl3, hl327, hid0, hid1⟩ := hr.put h
  have hidb : r.id ≤ 1099511627776 := by have := hr.end_; omega
  have HRD := Lib.hid (hr.read h)
  have HI := Lib.hid h
  obtain ⟨c0, c1, c2, c3, c4, c5, fz⟩ := h.cells
  have HMD : Hid (isMD r.m = true → MdOk r.m) := Lib.hid (fun hm => hr.md h hm)
  have HSZ := Lib.hid (hr.size h)
  obtain ⟨rid, rlen, m1, mq, m3, m4, m5, m6, m7, m8, m9, m10⟩ := r
  obtain ⟨db, tb, qb, xb⟩ := B
  unfold ReadTo MsgM.val MsgM.cells at HRD
  dsimp only at *
  clear h hr c1 c2 c3 c5 hput hlen hl3 hid0 hid1
  go_enter Tryz.func30, Tryz.ntmps30
  go_wp2_with fail
  refine HRD.out.mono ?_
  rintro e w1 ⟨vk, rfl, hst, hcp, hb1⟩
  obtain ⟨W1, hW1⟩ : ∃ W, W = w1.alloc (.cells #[.int .i64 m1, .int .i64 mq, .int .i64 m3, .int .i64 m4, .int .i64 m5, .int .i64 m6, .string m7, .string m8, .string m9, vk] 46) := ⟨_, rfl⟩
  have hbw : Below w.heap.size w W1 := hW1 ▸ hb1.alloc hb1.size _
  have hbx : Box W1 w1.heap.size #[.int .i64 m1, .int .i64 mq, .int .i64 m3, .int .i64 m4, .int .i64 m5, .int .i64 m6, .string m7, .string m8, .string m9, vk] := hW1 ▸ Box.new w1 _
  have hc1 : Chg (fun _ => False) w W1 := Chg.of_below hbw
  have hks : KeysAt W1 ⟨db, tb, qb, xb⟩ z vk m10 := (keysAt_read hst HI.out.lt).new (show Chg (fun _ => False) w1 W1 from hW1 ▸ Chg.alloc _ (Chg.refl _ _) _)
  obtain ⟨ka, kc, hva⟩ := hks.form
  obtain ⟨nk, hnk⟩ : ∃ n, n = m10.length := ⟨_, rfl⟩
  rw [← hnk] at hva
  subst hva
  have c0 := hc1.cell c0 (fun x => x)
  have c4 := hc1.cell c4 (fun x => x)
  have f4 : W1.frozen? ⟨db, 4, none⟩ = false := (HI.out.new hc1).cells.2.2.2.2.2.2 4
  have f5 : W1.frozen? ⟨db, 5, none⟩ = false := (HI.out.new hc1).cells.2.2.2.2.2.2 5
  obtain ⟨c5, hc5⟩ : ∃ v, W1.cell? ⟨db, 5, none⟩ = some v := ⟨_, (HI.out.new hc1).cells.2.2.2.2.2.1⟩
  have k0 : W1.cell? ⟨w1.heap.size, 0, none⟩ = some (.int .i64 m1) := hbx.cell 0
  have HI1 := Lib.hid (HI.out.new hc1)
  have HQ1 : Hid (QTo w (z.own ⟨db, tb, qb, xb⟩) W1 (z.own ⟨db, tb, qb, xb⟩)) := Lib.hid (QTo.of_new hc1)
  have HKS := Lib.hid hks
  have HBX := Lib.hid hbx
  have HW1 := Lib.hid hW1
  have HNK := Lib.hid hnk
  have hone : OutD W1 ⟨db, tb, qb, xb⟩ z w1.heap.size := ⟨hbx.lt, fun hx => by have := HI.out.lt _ hx; have := hb1.size; omega⟩
  have HOUT := Lib.hid hone
  clear hks hbx hW1 hnk hone hbw hc1 hst hcp hb1
  go_upto_region 2 with fail
  rw [← HW1.out]
  cases hmd : isMD ⟨m1, mq, m3, m4, m5, m6, m7, m8, m9, m10⟩ with
  | false =>
    have h1 : ¬ m1 = 1 := fun e => by unfold isMD at hmd; simp [e] at hmd
    have h3 : ¬ m1 = 3 := fun e => by unfold isMD at hmd; simp [e] at hmd
    have g1 : (m1 == 1) = false := by simpa using h1
    have g3 : (m1 == 3) = false := by simpa using h3
    have g1' : (m1 != 1) = true := by simpa using h1
    have g3' : (m1 != 3) = true := by simpa using h3
    clear h1 h3
    have HMF := Lib.hid hmd
    clear hmd
    go_wp2_with fail
    go_ret
    exact ⟨rfl, z, HI1.out, HQ1.out, rfl, rfl, fun _ => rfl, fun hx => (by rw [HMF.out] at hx; cases hx), rfl⟩
  | true =>
    have hmo := HMD.out hmd
    have hnk3 : nk ≤ 3 := HNK.out ▸ hmo.many
    have HLK : Hid (∀ (W : World) (z1 : DspG), DspI w0 W ⟨db, tb, qb, xb⟩ z1 → QTo w (z.own ⟨db, tb, qb, xb⟩) W (z1.own ⟨db, tb, qb, xb⟩) → z1.k = 0 → z1.b = rid → z1.x = z.x → z1.c = z.c → z1.y = z.y → KeysAt W ⟨db, tb, qb, xb⟩ z1 (.slice ka nk kc) m10 →
        Calls Tryz.prog 61 #[.pointer (some ⟨db, 0, none⟩), .int .i64 (nk : Int)] W (fun e w' => e = .returned (.int .i64 0) ∧ ∃ q, w' = W.drewN q) ∧
        ∀ q, Calls Tryz.prog 62 #[.pointer (some ⟨db, 0, none⟩), .int .i64 (rid : Int), .agg #[.int .i64 m1, .int .i64 mq, .int .i64 m3, .int .i64 m4, .int .i64 m5, .int .i64 m6, .string m7, .string m8, .string m9, .slice ka nk kc]] (W.drewN q) (LookTo w0 w ⟨db, tb, qb, xb⟩ z ⟨rid, rlen, ⟨m1, mq, m3, m4, m5, m6, m7, m8, m9, m10⟩⟩)) := Lib.hid (fun W z1 hi hq a1 a2 a3 a4 a5 hks => by
      have hcap1 : z1.y.st.size + 80 ≤ z1.y.st.cap := by rw [a5]; exact hcap
      refine ⟨drefuses_any hi a1 nk (by omega) (by omega), fun q => ?_⟩
      have hsz1 : (getK z1.x.t.M (rid : Int)).getD 0 = (rlen : Int) := by rw [a3]; exact HSZ.out
      have hE := denter_any (r := ⟨rid, rlen, ⟨m1, mq, m3, m4, m5, m6, m7, m8, m9, m10⟩⟩) hmo (hi.new (chg_drewN W q)) a1 (.slice ka nk kc) (hks.new (chg_drewN W q)) hidb hl327 hsz1 hcap1 (by rw [a5]; exact hn) (by rw [a5]; exact hL) (by rw [a5]; exact hR)
      refine hE.mono ?_
      rintro e w' ⟨rfl, z2, hJ⟩
      exact ⟨rfl, z2, hJ.i, (hq.trans (QTo.of_new (chg_drewN W q))).trans hJ.qt, hJ.look a3 a4 a5 a2 hmd⟩)
    have hkk : m1 = 1 ∨ m1 = 3 := by
      unfold isMD at hmd
      simpa using hmd
    clear hmd hmo hcap hn hL hR
    by_cases hbe : z.b = rid
    · have hk0 : z.k = 0 := hbg.resolve_right (fun x => x hbe)
      obtain ⟨HR, HE⟩ := HLK.out W1 z HI1.out HQ1.out hk0 hbe rfl rfl rfl HKS.out
      have HR := Lib.hid HR
      have HE := Lib.hid HE
      have g4 : ((z.b : Int) == (rid : Int)) = true := by simp [hbe]
      have g4' : ((z.b : Int) != (rid : Int)) = false := by simp [hbe]
      have k9 : W1.cell? ⟨w1.heap.size, 9, none⟩ = some (.slice ka nk kc) := HBX.out.cell 9
      obtain ⟨zb, hzb⟩ : ∃ x : Int, x = (z.b : Int) := ⟨_, rfl⟩
      rw [← hzb] at c4 g4 g4'
      clear hk0 hbe hbg hzb
      rcases hkk with rfl | rfl
      all_goals
        go_wp2_with fail
        refine HR.out.mono ?_
        rintro e w5 ⟨rfl, q5, rfl⟩
        have HE5 := Lib.hid (HE.out q5)
        have kk : ∀ i, (W1.drewN q5).cell? ⟨w1.heap.size, i, none⟩ = _ := HBX.out.cell
        generalize W1.drewN q5 = W5 at HE5 kk ⊢
        go_wp2_with fail
        refine HE5.out.mono ?_
        rintro e w6 hlk
        obtain ⟨rfl, hlk⟩ := hlk
        have HLL := Lib.hid hlk
        clear hlk
        go_wp2_with fail
        go_ret
        exact ⟨rfl, HLL.out⟩
    · obtain ⟨s1, s2⟩ := HI1.out.begun rid _ rfl
      obtain ⟨HR, HE⟩ := HLK.out _ _ s1 (HQ1.out.trans s2) rfl rfl rfl rfl rfl (HKS.out.to s2)
      have hbx2 : Box ((W1.setCell ⟨db, 4, none⟩ (.int .i64 (rid : Int))).setCell ⟨db, 5, none⟩ (.int .i64 0)) w1.heap.size _ := (HOUT.out.to s2).2.trans HBX.out
      have HR := Lib.hid HR
      have HE := Lib.hid HE
      have HBX2 := Lib.hid hbx2
      obtain ⟨W2, hW2⟩ : ∃ W, W = (W1.setCell ⟨db, 4, none⟩ (.int .i64 (rid : Int))).setCell ⟨db, 5, none⟩ (.int .i64 0) := ⟨_, rfl⟩
      rw [← hW2] at HR HE HBX2
      have HW2 := Lib.hid hW2
      have k9 : W2.cell? ⟨w1.heap.size, 9, none⟩ = some (.slice ka nk kc) := HBX2.out.cell 9
      have hne : ¬ (z.b : Int) = (rid : Int) := fun x => hbe (by omega)
      have g4 : ((z.b : Int) == (rid : Int)) = false := by simpa using hne
      have g4' : ((z.b : Int) != (rid : Int)) = true := by simpa using hne
      obtain ⟨zb, hzb⟩ : ∃ x : Int, x = (z.b : Int) := ⟨_, rfl⟩
      rw [← hzb] at c4 g4 g4'
      clear hbe hbg hzb hne s1 s2 hbx2 hW2
      rcases hkk with rfl | rfl
      all_goals
        go_upto_region 8 with fail
        rw [← HW2.out]
        clear k0 c0 c4 f4 f5 hc5
        go_wp2_with fail
        refine HR.out.mono ?_
        rintro e w5 ⟨rfl, q5, rfl⟩
        have HE5 := Lib.hid (HE.out q5)
        have kk : ∀ i, (W2.drewN q5).cell? ⟨w1.heap.size, i, none⟩ = _ := HBX2.out.cell
        generalize W2.drewN q5 = W5 at HE5 kk ⊢
        go_wp2_with fail
        refine HE5.out.mono ?_
        rintro e w6 hlk
        obtain ⟨rfl, hlk⟩ := hlk
        have HLL := Lib.hid hlk
        clear hlk
        go_wp2_with fail
        go_ret
        exact ⟨rfl, HLL.out⟩
end Go.Proofs.YtdnhgodfmjapmaaGreatDoor
