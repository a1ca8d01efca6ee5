/- A part. -/
import Derived.Test.YtdnhgodfmjapmaaGreatDoorDon46
import Derived.Test.YtdnhgodfmjapmaaGreatDoorDon54
set_option linter.unusedVariables false
set_option linter.unusedSimpArgs false
namespace Go.Proofs.YtdnhgodfmjapmaaGreatDoor
open Go.RowKit Go.Deep
theorem QsI.other {w0 w w' : World} {S : Nat → Prop} {qb : Nat} {mv : Option Nat} {g g' : Gh} {st st' : St} {n n' : Nat} {L : List (QK × LnM)} (h : QsI w0 w qb mv g st n L) (hc : Chg S w w') (hS : ∀ q ∈ qfoot qb mv L, ¬ S q)
    (hd : DiskG w0 w' g'.d g' st') (hgd : g'.d = g.d) (hfp : ∀ q ∈ g'.fp, q ∈ g.fp ∨ w.heap.size ≤ q) (hk : Calm n' st') (hn : n ≤ n') (ho : Others kH st st') (hnm : st'.fs.map (·.1) = st.fs.map (·.1)) : QsI w0 w' qb mv g' st' n' L := by
  have hnm2 : ∀ p ∈ st'.fs, p.1.size ≤ 1048576 := fun p hp => by
    have : p.1 ∈ st'.fs.map (·.1) := List.mem_map_of_mem (f := fun p : ByteArray × FileM => p.1) hp
    rw [hnm] at this
    obtain ⟨r, hr, hx⟩ := List.mem_map.1 this
    rw [← hx]
    exact h.q.nm r hr
  have hout : ∀ q ∈ qfoot qb mv L, q ∉ g'.fp := fun q hq hx => by
    rcases hfp q hx with h1 | h1
    · exact h.q.out q hq h1
    · have := h.q.lt q hq; omega
  refine ⟨⟨hd, h.q.tab, hk, hnm2, ?_, h.q.keys, fun p hp => ?_, h.q.apart, h.q.low, fun q hq => Nat.lt_of_lt_of_le (h.q.lt q hq) hc.size, hout, fun f hf hx => ?_⟩, h.map.keep (fun mb hmb => ?_), h.lo⟩
  · rw [hgd]
    exact hc.heap h.q.at_ (hS _ (mem_qfoot_q ..))
  · have hl := h.q.ln p hp
    refine { hl with at_ := hc.heap hl.at_ (hS _ (mem_qfoot_lb hp)), el := Nat.le_trans hl.el hn, row := fun r hr => ?_ }
    obtain ⟨m, i0, j, h2⟩ := hl.row r hr
    have hrf := mem_qfoot_row (qb := qb) (mv := mv) hp hr
    refine ⟨m, i0, j, ⟨⟨hd.disk, by rw [hgd]; exact h2.rg.row.chg hc (hS _ hrf), hout _ hrf, hd.chg, hd.low, h2.rg.lowb, h2.rg.tab0⟩, h2.rc.keep hk hnm2 ho (fun nm hx => ?_), h2.hd, h2.lo⟩⟩
    rw [h2.hd] at hx
    obtain ⟨r2, hr2⟩ := prefix_app (hd_pre p.1 hx)
    unfold Lib.hasPrefix
    rw [hr2]
    rfl
  · have hm : f.1 ∈ st'.fs.map (·.1) := List.mem_map_of_mem (f := fun p : ByteArray × FileM => p.1) hf
    rw [hnm] at hm
    obtain ⟨r, hr, he⟩ := List.mem_map.1 hm
    obtain ⟨p, hp, h1, h2⟩ := h.q.files r hr (by rw [he]; exact hx)
    exact ⟨p, hp, h1, by rw [← he]; exact h2⟩
  · subst hmb
    exact hc.block _ h.map.lt (hS _ (mem_qfoot_mv rfl))
theorem q_not_x {k : QK} {nm : ByteArray} (hx : Lib.hasPrefix nm.data.toList kH.data.toList = true) : Lib.hasPrefix nm.data.toList (hdQ k).data.toList = false := by
  cases h : Lib.hasPrefix nm.data.toList (hdQ k).data.toList with
  | false => rfl
  | true =>
    obtain ⟨r1, e1⟩ := prefix_app (hd_pre k h)
    obtain ⟨r2, e2⟩ := prefix_app hx
    rw [e1] at e2
    have : (113 : UInt8) = 120 := by
      have := congrArg List.head? e2
      simp [qHead, kH] at this
    exact absurd this (by decide)
theorem KxI.other {w0 w w' : World} {S : Nat → Prop} {xb : Nat} {g g' : Gh} {st st' : St} {n n' : Nat} {R : List KE} {k : QK} (h : KxI w0 w xb g st n R) (hc : Chg S w w') (hS : ¬ S xb)
    (hd : DiskG w0 w' g'.d g' st') (hgd : g'.d = g.d) (hfp : xb ∉ g'.fp) (hk : Calm n' st') (ho : Others (hdQ k) st st') : KxI w0 w' xb g' st' n' R := by
  obtain ⟨f1, h1, h2⟩ := h.lnk
  obtain ⟨f2, h3, h4⟩ := h.slt
  exact ⟨hd, hk, by rw [hgd]; exact hc.heap h.cell hS, h.low, hfp, ⟨f1, by rw [ho _ (q_not_x kH_xL)]; exact h1, h2⟩, ⟨f2, by rw [ho _ (q_not_x kH_xS)]; exact h3, h4⟩, h.ok⟩
structure RcM where
  id : Nat
  len : Nat
  m : MsgM
def recsI : Nat → List (MsgM × List UInt8) → List RcM
  | _, [] => []
  | p, x :: l => (if x.1.kind == 0 then [] else [⟨p, x.2.length, x.1⟩]) ++ recsI (p + x.2.length) l
theorem recsI_app (p : Nat) (l l' : List (MsgM × List UInt8)) : recsI p (l ++ l') = recsI p l ++ recsI (p + (bytesI l).length) l' := by
  induction l generalizing p with
  | nil => simp [recsI, bytesI]
  | cons x l ih =>
    show (_ ++ recsI (p + x.2.length) (l ++ l')) = (_ ++ recsI (p + x.2.length) l) ++ _
    rw [ih, bytesI_cons, List.length_append, Nat.add_assoc, List.append_assoc]
theorem recsI_notes (p : Nat) (l : List (MsgM × List UInt8)) : notesI p l = (recsI p l).map (fun r => ((r.id : Int), (r.len : Int), r.m.born)) := by
  induction l generalizing p with
  | nil => rfl
  | cons x l ih =>
    show (_ ++ notesI (p + x.2.length) l) = (_ ++ recsI (p + x.2.length) l).map _
    rw [ih, List.map_append]
    congr 1
    split <;> rfl
theorem recsI_ids (p : Nat) (l : List (MsgM × List UInt8)) : (notesI p l).map (·.1) = (recsI p l).map (fun r => (r.id : Int)) := by
  rw [recsI_notes, List.map_map]
  rfl
theorem recsI_split {p : Nat} {l : List (MsgM × List UInt8)} : ∀ r ∈ recsI p l, ∃ l1 bs l2, l = l1 ++ (r.m, bs) :: l2 ∧ r.m.kind ≠ 0 ∧ r.id = p + (bytesI l1).length ∧ r.len = bs.length := by
  induction l generalizing p with
  | nil => intro r hr; cases hr
  | cons x l ih =>
    intro r hr
    rcases List.mem_append.1 hr with h | h
    · split at h
      · cases h
      · rename_i hk
        rw [List.mem_singleton] at h
        subst h
        exact ⟨[], x.2, l, rfl, by simpa using hk, by simp [bytesI], rfl⟩
    · obtain ⟨l1, bs, l2, e1, e2, e3, e4⟩ := ih r h
      exact ⟨x :: l1, bs, l2, by rw [e1]; rfl, e2, by rw [e3, bytesI_cons, List.length_append]; omega, e4⟩
theorem recsI_put {p : Nat} {l : List (MsgM × List UInt8)} (hl : LaidAt p l) : ∀ r ∈ recsI p l, r.m.kind ≠ 0 ∧ ∃ bs, putO r.m = some bs ∧ r.len = bs.length ∧ 3 ≤ r.len ∧ r.len ≤ 327 ∧ p ≤ r.id ∧ r.id + r.len ≤ p + (bytesI l).length := by
  intro r hr
  obtain ⟨l1, bs, l2, e1, e2, e3, e4⟩ := recsI_split r hr
  rw [e1] at hl
  have h2 := (laidAt_app.1 hl).2.1.1
  obtain ⟨h3, h4⟩ := putO_len e2 h2
  dsimp only at h3 h4
  refine ⟨e2, bs, h2, e4, by omega, by omega, by omega, ?_⟩
  rw [e1, bytesI_app, bytesI_cons, List.length_append, List.length_append]
  dsimp only
  omega
theorem recsI_sorted {p : Nat} {l : List (MsgM × List UInt8)} (hl : LaidAt p l) : (recsI p l).Pairwise (fun a b => a.id + a.len ≤ b.id) := by
  induction l generalizing p with
  | nil => exact List.Pairwise.nil
  | cons x l ih =>
    show (_ ++ recsI (p + x.2.length) l).Pairwise _
    rw [List.pairwise_append]
    refine ⟨?_, ih hl.2, fun a ha b hb => ?_⟩
    · split
      · exact List.Pairwise.nil
      · exact List.pairwise_singleton _ _
    · obtain ⟨_, _, _, _, _, _, h1, _⟩ := recsI_put hl.2 b hb
      split at ha
      · cases ha
      · rw [List.mem_singleton] at ha
        subst ha
        exact h1
def isMD (M : MsgM) : Bool := M.kind == 1 || M.kind == 3
structure MdOk (M : MsgM) : Prop where
  top : topicB M.topic = true
  q0 : 0 ≤ M.queue
  q2 : M.queue ≤ 2
  tag : M.tag.size ≤ 16
  many : M.keys.length ≤ 3
  key : ∀ k ∈ M.keys, keyB k = true ∧ k.size ≤ 16
  b0 : 0 ≤ M.born
  b1 : M.born ≤ 1099511627776
theorem plain_small {s : ByteArray} (h : plainB s = true) : s.size ≤ 16 := (okL_iff.1 h).2.1
theorem tag_small {s : ByteArray} (h : tagB s = true) : s.size ≤ 16 := by
  unfold tagB at h
  rcases Bool.or_eq_true_iff.1 h with h | h
  · have : s.toList = [] := by simpa using h
    rw [← ba_toList s, this]
    decide
  · exact plain_small h
theorem key_small {s : ByteArray} (h : keyB s = true) : s.size ≤ 16 := (okL_iff.1 h).2.1
theorem md_ok {M : MsgM} {bs : List UInt8} (hp : putO M = some bs) (hm : isMD M = true) : MdOk M := by
  unfold putO at hp
  have hr : rightB M = true := by
    cases h : rightB M with
    | true => rfl
    | false => rw [h] at hp; simp at hp
  clear hp
  unfold rightB at hr
  rw [Bool.and_eq_true] at hr
  obtain ⟨h1, h2⟩ := hr
  have hb := allIn_iff.1 h1 M.born (by simp [MsgM.nums])
  have hw : wholeB M = true := by
    unfold isMD at hm
    unfold restB at h2
    rcases Bool.or_eq_true_iff.1 hm with h | h
    · have hk : M.kind = 1 := by simpa using h
      rw [if_neg (by omega), if_pos hk, Bool.and_eq_true] at h2
      exact h2.1
    · have hk : M.kind = 3 := by simpa using h
      rw [if_neg (by omega), if_neg (by omega), if_pos (.inr hk)] at h2
      exact h2
  unfold wholeB keysB at hw
  simp only [Bool.and_eq_true, decide_eq_true_eq, List.all_eq_true] at hw
  obtain ⟨a1, a2, a3, a4, ⟨a5, a6, a7⟩, a8⟩ := hw
  have hq := allIn_iff.1 a1 M.queue (by simp)
  exact ⟨a3, hq.1, hq.2, tag_small a4, a5, fun k hk => ⟨a6 k hk, key_small (a6 k hk)⟩, hb.1, hb.2⟩
def plR (r : RcM) : PlM := ⟨r.id, r.len, (hashF 0 r.m.tag.data.toList : Nat), r.m.born⟩
theorem plR_fit {r : RcM} (h : MdOk r.m) (hi : r.id ≤ 1099511627776) (hl : r.len ≤ 327) : (plR r).fit = true := by
  have hh := hashF_lt (h := 0) (by decide) r.m.tag.data.toList
  obtain ⟨b, hb⟩ : ∃ b : Nat, r.m.born = (b : Int) := ⟨r.m.born.toNat, by have := h.b0; omega⟩
  have hb1 := h.b1
  refine fit4_iff.2 fun i hi2 => ?_
  match i, hi2 with
  | 0, _ => exact ⟨Int.natCast_nonneg _, by show ((r.id : Nat) : Int) < 256 ^ 6; omega⟩
  | 1, _ => exact ⟨Int.natCast_nonneg _, by show ((r.len : Nat) : Int) < 256 ^ 2; omega⟩
  | 2, _ => exact ⟨Int.natCast_nonneg _, by show ((hashF 0 r.m.tag.data.toList : Nat) : Int) < 256 ^ 5; omega⟩
  | 3, _ => exact ⟨h.b0, by show r.m.born < 256 ^ 7; omega⟩
def keR (r : RcM) : List KE := r.m.keys.map fun k => ⟨numK r.m.topic k, r.id, r.m.born.toNat⟩
def keD (D : List RcM) : List KE := (D.flatMap keR).reverse
theorem keD_snoc (D : List RcM) (r : RcM) : keD (D ++ [r]) = (keR r).reverse ++ keD D := by
  unfold keD
  rw [List.flatMap_append, List.reverse_append]
  simp
def manyD (D : List RcM) : Nat := (D.map fun r => 1 + r.m.keys.length).sum
theorem manyD_snoc (D : List RcM) (r : RcM) : manyD (D ++ [r]) = manyD D + (1 + r.m.keys.length) := by
  unfold manyD
  rw [List.map_append, List.sum_append]
  simp
theorem keD_length (D : List RcM) : (keD D).length + D.length = manyD D := by
  unfold keD manyD
  rw [List.length_reverse]
  induction D with
  | nil => rfl
  | cons r D ih =>
    rw [List.flatMap_cons, List.length_append, List.map_cons, List.sum_cons, List.length_cons, keR, List.length_map]
    omega
structure QRel (L : List (QK × LnM)) (D : List RcM) : Prop where
  es : ∀ k : QK, (lnD L k).es = (D.filter fun r => decide (r.m.topic = k.1.1) && decide (r.m.queue = k.1.2)).map plR
  all : (L.flatMap fun p => p.2.es.map (·.a)).Perm (D.map fun r => (r.id : Int))
  len : L.length ≤ D.length
theorem QRel.nil : QRel [] [] := ⟨fun k => rfl, List.Perm.nil, Nat.le_refl _⟩
theorem lnD_snoc {L : List (QK × LnM)} {k : QK} {x : LnM} (k2 : QK) : lnD (dropK L k ++ [(k, x)]) k2 = if k = k2 then x else lnD L k2 := by
  by_cases h : k = k2
  · subst h
    rw [if_pos rfl, lnD_last]
  · rw [if_neg h, lnD_other L k k2 x (fun hx => h hx.symm)]
theorem QRel.add {L : List (QK × LnM)} {D : List RcM} (h : QRel L D) (hn : (L.map (·.1)).Nodup) {r : RcM} {k : QK} (h1 : k.1.1 = r.m.topic) (h2 : k.1.2 = r.m.queue) {x : LnM} (hx : x.es = (lnD L k).es ++ [plR r]) : QRel (dropK L k ++ [(k, x)]) (D ++ [r]) := by
  refine ⟨fun k2 => ?_, ?_, ?_⟩
  · rw [lnD_snoc, List.filter_append, List.map_append]
    by_cases hk : k = k2
    · subst hk
      rw [if_pos rfl, hx, h.es k, h1, h2]
      simp
    · rw [if_neg hk, h.es k2]
      have : ¬ (r.m.topic = k2.1.1 ∧ r.m.queue = k2.1.2) := fun ⟨a, b⟩ => hk (Subtype.ext (Prod.ext (h1.trans a) (h2.trans b)))
      have e : (decide (r.m.topic = k2.1.1) && decide (r.m.queue = k2.1.2)) = false := by
        cases h3 : decide (r.m.topic = k2.1.1) && decide (r.m.queue = k2.1.2) with
        | false => rfl
        | true =>
          rw [Bool.and_eq_true, decide_eq_true_eq, decide_eq_true_eq] at h3
          exact absurd h3 this
      simp [e]
  · rw [List.flatMap_append, List.map_append]
    have e : (List.flatMap (fun p : QK × LnM => p.2.es.map (·.a)) [(k, x)]) = (lnD L k).es.map (·.a) ++ [(r.id : Int)] := by
      rw [List.flatMap_cons, List.flatMap_nil, List.append_nil, hx, List.map_append]
      rfl
    rw [e, ← List.append_assoc]
    refine List.Perm.append ?_ (List.Perm.refl _)
    refine List.Perm.trans ?_ h.all
    unfold lnD
    cases hg : getK L k with
    | none =>
      rw [dropK_none hg]
      simp
    | some y =>
      have hp := focus_perm hn hg
      have := hp.flatMap_right (fun p : QK × LnM => p.2.es.map (·.a))
      rw [List.flatMap_append] at this
      refine List.Perm.trans ?_ this.symm
      simp
  · have h3 : (dropK L k).length ≤ L.length := List.length_filter_le _ _
    have := h.len
    rw [List.length_append, List.length_append]
    simp only [List.length_cons, List.length_nil]
    omega
structure TpG where
  t : TapeM
  g : Gh
  st : St
  m : RowM
  n : Nat
  i0 : Nat
  j : Nat
  l : List (MsgM × List UInt8)
def TpG.own (tb : Nat) (x : TpG) (q : Nat) : Prop := q ∈ x.t.foot tb ∨ q = x.t.rb ∨ q ∈ x.g.fp
def TpI (w0 w : World) (tb : Nat) (x : TpG) : Prop := TapeI w0 w tb x.t x.g x.st x.m x.n x.i0 x.j x.l
structure QxG where
  mv : Option Nat
  g : Gh
  st : St
  n : Nat
  L : List (QK × LnM)
  R : List KE
def QxG.own (qb xb : Nat) (y : QxG) (q : Nat) : Prop := qAll qb y.mv y.L y.g q ∨ q = xb
structure QxI (w0 w : World) (qb xb : Nat) (y : QxG) : Prop where
  q : QsI w0 w qb y.mv y.g y.st y.n y.L
  x : KxI w0 w xb y.g y.st y.n y.R
  ne : xb ∉ qfoot qb y.mv y.L
theorem TpI.lt {w0 w : World} {tb : Nat} {x : TpG} (h : TpI w0 w tb x) : ∀ q, x.own tb q → q < w.heap.size := fun q hq => by
  rcases hq with a | a | a
  · exact h.tg.tape.lt q a
  · rw [a]; exact h.tg.row.row.lt
  · exact h.tg.row.disk.lt q a
theorem TpI.low {w0 w : World} {tb : Nat} {x : TpG} (h : TpI w0 w tb x) : ∀ q, x.own tb q → w0.heap.size ≤ q := fun q hq => by
  rcases hq with a | a | a
  · exact h.tg.tape.low q a
  · rw [a]; exact h.tg.row.lowb
  · exact h.tg.row.low q a
theorem TpI.away {w0 w w' : World} {S : Nat → Prop} {tb : Nat} {x : TpG} (h : TpI w0 w tb x) (hc : Chg S w w') (hS : ∀ q, x.own tb q → ¬ S q) (hl : ∀ q, S q → w0.heap.size ≤ q) : TpI w0 w' tb x :=
  { h with tg := ⟨⟨h.tg.row.disk.chg hc (fun q hq => hS q (.inr (.inr hq))), h.tg.row.row.chg hc (hS _ (.inr (.inl rfl))), h.tg.row.out, h.tg.row.chg.trans hc (fun q hq hx => by have := hl q hx; omega), h.tg.row.low, h.tg.row.lowb, h.tg.row.tab0⟩, h.tg.tape.chg hc (fun q hq => hS q (.inl hq)), h.tg.out⟩ }
theorem TpI.new {w0 w w' : World} {tb : Nat} {x : TpG} (h : TpI w0 w tb x) (hc : Chg (fun _ => False) w w') : TpI w0 w' tb x := TapeI.new h hc
theorem QxI.lt {w0 w : World} {qb xb : Nat} {y : QxG} (h : QxI w0 w qb xb y) : ∀ q, y.own qb xb q → q < w.heap.size := fun q hq => by
  rcases hq with a | a
  · exact h.q.q.lt_all q a
  · rw [a]; exact h.x.lt
theorem QxI.low {w0 w : World} {qb xb : Nat} {y : QxG} (h : QxI w0 w qb xb y) : ∀ q, y.own qb xb q → w0.heap.size ≤ q := fun q hq => by
  rcases hq with a | a
  · exact h.q.q.low_all q a
  · rw [a]; exact h.x.low
theorem QxI.away {w0 w w' : World} {S : Nat → Prop} {qb xb : Nat} {y : QxG} (h : QxI w0 w qb xb y) (hc : Chg S w w') (hS : ∀ q, y.own qb xb q → ¬ S q) (hl : ∀ q, S q → w0.heap.size ≤ q) : QxI w0 w' qb xb y :=
  ⟨⟨h.q.q.chg hc (hS _ (.inl (.inl (mem_qfoot_q ..)))) (fun p hp q hq => hS q (.inl (.inl (by
      unfold LnM.foot at hq
      rcases List.mem_cons.1 hq with e | e
      · rw [e]; exact mem_qfoot_lb hp
      · exact mem_qfoot_row hp (by simpa using e))))) (fun q hq => hS q (.inl (.inr hq))) hl, h.q.map.keep (fun mb hm => by
      have h1 := h.q.map
      rw [hm] at h1
      exact hc.block _ h1.lt (hS _ (.inl (.inl (mem_qfoot_mv hm))))), h.q.lo⟩,
   h.x.chg hc (hS _ (.inr rfl)) (fun q hq => hS q (.inl (.inr hq))) (fun q hq hx => by have := hl q hx; omega), h.ne⟩
theorem QxI.new {w0 w w' : World} {qb xb : Nat} {y : QxG} (h : QxI w0 w qb xb y) (hc : Chg (fun _ => False) w w') : QxI w0 w' qb xb y := ⟨h.q.new hc, h.x.new hc, h.ne⟩
theorem QxI.add {w0 w w' : World} {qb xb : Nat} {y : QxG} (h : QxI w0 w qb xb y) {k : QK} {p : PlM} {e : Ending} (ha : QAddTo w0 w qb y.mv y.g y.st y.n y.L k p e w') :
    ∃ y' x', e = .returned (.tuple #[.int .i64 (((lnD y.L k).base + (lnD y.L k).es.length : Nat) : Int), .int .i64 0]) ∧ QxI w0 w' qb xb y' ∧ QTo w (y.own qb xb) w' (y'.own qb xb) ∧ y'.L = dropK y.L k ++ [(k, x')] ∧ y'.R = y.R ∧ y'.n = y.n + 2 ∧ y'.st.size = y.st.size + 20 ∧ y'.st.cap = y.st.cap ∧
      x'.base = (lnD y.L k).base ∧ x'.least = (lnD y.L k).least ∧ x'.es = (lnD y.L k).es ++ [p] ∧ y'.g.d = y.g.d := by
  obtain ⟨x', mv', g', st', he, h1, h2, h3, h4, h5, h6, h7, h8, h9, h10⟩ := ha
  have hxq : ¬ qAll qb y.mv y.L y.g xb := fun hx => hx.elim h.ne h.x.out
  have hxn : ¬ qAll qb mv' (dropK y.L k ++ [(k, x')]) g' xb := fun hx => by
    rcases h2.new xb hx with a | a
    · exact hxq a
    · have := h.x.lt; omega
  refine ⟨⟨mv', g', st', y.n + 2, dropK y.L k ++ [(k, x')], y.R⟩, x', he, ⟨h1, ?_, fun hx => hxn (.inl hx)⟩, ⟨h2.chg.wide (fun q _ hx => .inl hx), fun q hq => ?_⟩, rfl, rfl, rfl, h3, h4, h5, h6, h7, h10⟩
  · exact h.x.other h2.chg hxq h1.q.disk h10 (fun hx => hxn (.inr hx)) h1.q.calm h9
  · rcases hq with a | a
    · exact (h2.new q a).imp .inl id
    · exact .inl (.inr a)
theorem QxI.put {w0 w w' : World} {qb xb : Nat} {y : QxG} (h : QxI w0 w qb xb y) {R' : List KE} {er : Int} {e : Ending} (ha : KPutTo w0 w xb y.g y.st y.n R' er e w') :
    ∃ y', e = .returned (.int .i64 er) ∧ QxI w0 w' qb xb y' ∧ QTo w (y.own qb xb) w' (y'.own qb xb) ∧ y'.L = y.L ∧ y'.R = R' ∧ y'.n = y.n + 2 ∧ (y'.st.size = if er = 0 then y.st.size + 20 else y.st.size) ∧ y'.st.cap = y.st.cap ∧ y'.g.d = y.g.d := by
  obtain ⟨he, g', st', h1, h2, h3, h4, h5, h6⟩ := ha
  have hS : ∀ q ∈ qfoot qb y.mv y.L, ¬ (q = xb ∨ q ∈ y.g.fp) := fun q hq hx => by
    rcases hx with a | a
    · exact h.ne (a ▸ hq)
    · exact h.q.q.out q hq a
  refine ⟨⟨y.mv, g', st', y.n + 2, y.L, R'⟩, he, ⟨h.q.other h2.chg hS h1.disk h2.d h2.fp h1.calm (Nat.le_add_right y.n 2) h5 h6, h1, h.ne⟩, ⟨h2.chg.wide (fun q _ hx => hx.elim (fun a => .inr a) (fun a => .inl (.inr a))), fun q hq => ?_⟩, rfl, rfl, rfl, h4, h3, h2.d⟩
  rcases hq with (a | a) | a
  · exact .inl (.inl (.inl a))
  · exact (h2.fp q a).imp (fun z => .inl (.inr z)) id
  · exact .inl (.inr a)
structure DspG where
  x : TpG
  y : QxG
  c : Nat
  b : Nat
  k : Nat
structure DspB where
  db : Nat
  tb : Nat
  qb : Nat
  xb : Nat
def DspG.own (B : DspB) (z : DspG) (q : Nat) : Prop := q = B.db ∨ z.x.own B.tb q ∨ z.y.own B.qb B.xb q
def dspC (B : DspB) (c b k : Nat) : Array Value := #[.pointer (some ⟨B.tb, 0, none⟩), .pointer (some ⟨B.qb, 0, none⟩), .pointer (some ⟨B.xb, 0, none⟩), .int .i64 (c : Int), .int .i64 (b : Int), .int .i64 (k : Int)]
structure DspI (w0 w : World) (B : DspB) (z : DspG) : Prop where
  at_ : w.heap[B.db]? = some (.cells (dspC B z.c z.b z.k) 77 (0, 0))
  low : w0.heap.size ≤ B.db
  tp : TpI w0 w B.tb z.x
  qx : QxI w0 w B.qb B.xb z.y
  ap1 : ∀ q, z.x.own B.tb q → ¬ z.y.own B.qb B.xb q
  ap2 : ¬ z.x.own B.tb B.db
  ap3 : ¬ z.y.own B.qb B.xb B.db
theorem DspI.lt {w0 w : World} {B : DspB} {z : DspG} (h : DspI w0 w B z) : ∀ q, z.own B q → q < w.heap.size := fun q hq => by
  rcases hq with a | a | a
  · rw [a]; exact (Array.getElem?_eq_some_iff.1 h.at_).1
  · exact h.tp.lt q a
  · exact h.qx.lt q a
theorem DspI.away {w0 w w' : World} {S : Nat → Prop} {B : DspB} {z : DspG} (h : DspI w0 w B z) (hc : Chg S w w') (hS : ∀ q, z.own B q → ¬ S q) (hl : ∀ q, S q → w0.heap.size ≤ q) : DspI w0 w' B z :=
  ⟨hc.heap h.at_ (hS _ (.inl rfl)), h.low, h.tp.away hc (fun q hq => hS q (.inr (.inl hq))) hl, h.qx.away hc (fun q hq => hS q (.inr (.inr hq))) hl, h.ap1, h.ap2, h.ap3⟩
theorem DspI.new {w0 w w' : World} {B : DspB} {z : DspG} (h : DspI w0 w B z) (hc : Chg (fun _ => False) w w') : DspI w0 w' B z := h.away hc (fun _ _ x => x) (fun _ x => x.elim)
theorem DspI.cells {w0 w : World} {B : DspB} {z : DspG} (h : DspI w0 w B z) : w.cell? ⟨B.db, 0, none⟩ = some (.pointer (some ⟨B.tb, 0, none⟩)) ∧ w.cell? ⟨B.db, 1, none⟩ = some (.pointer (some ⟨B.qb, 0, none⟩)) ∧ w.cell? ⟨B.db, 2, none⟩ = some (.pointer (some ⟨B.xb, 0, none⟩)) ∧
    w.cell? ⟨B.db, 3, none⟩ = some (.int .i64 (z.c : Int)) ∧ w.cell? ⟨B.db, 4, none⟩ = some (.int .i64 (z.b : Int)) ∧ w.cell? ⟨B.db, 5, none⟩ = some (.int .i64 (z.k : Int)) ∧ ∀ i, w.frozen? ⟨B.db, i, none⟩ = false := by
  have h := h.at_
  refine ⟨?_, ?_, ?_, ?_, ?_, ?_, fun i => ?_⟩ <;> simp [World.cell?, World.frozen?, h, dspC]
theorem DspI.tape {w0 w w' : World} {B : DspB} {z : DspG} (h : DspI w0 w B z) {x' : TpG} (hx : TpI w0 w' B.tb x') (hq : QTo w (z.x.own B.tb) w' (x'.own B.tb)) : DspI w0 w' B { z with x := x' } ∧ QTo w (z.own B) w' (DspG.own B { z with x := x' }) := by
  have hn : ∀ q, q < w.heap.size → x'.own B.tb q → z.x.own B.tb q := fun q hl hx2 => by
    rcases hq.new q hx2 with a | a
    · exact a
    · omega
  refine ⟨⟨hq.chg.heap h.at_ h.ap2, h.low, hx, h.qx.away hq.chg (fun q hy hx2 => h.ap1 q hx2 hy) h.tp.low, fun q h1 h2 => h.ap1 q (hn q (h.qx.lt q h2) h1) h2, fun h1 => h.ap2 (hn _ (h.lt _ (.inl rfl)) h1), h.ap3⟩, hq.chg.wide (fun q _ a => .inr (.inl a)), fun q hx2 => ?_⟩
  rcases hx2 with a | a | a
  · exact .inl (.inl a)
  · exact (hq.new q a).imp (fun b => .inr (.inl b)) id
  · exact .inl (.inr (.inr a))
theorem DspI.cache {w0 w w' : World} {B : DspB} {z : DspG} (h : DspI w0 w B z) {y' : QxG} (hy : QxI w0 w' B.qb B.xb y') (hq : QTo w (z.y.own B.qb B.xb) w' (y'.own B.qb B.xb)) : DspI w0 w' B { z with y := y' } ∧ QTo w (z.own B) w' (DspG.own B { z with y := y' }) := by
  have hn : ∀ q, q < w.heap.size → y'.own B.qb B.xb q → z.y.own B.qb B.xb q := fun q hl hx2 => by
    rcases hq.new q hx2 with a | a
    · exact a
    · omega
  refine ⟨⟨hq.chg.heap h.at_ h.ap3, h.low, h.tp.away hq.chg (fun q hx hy2 => h.ap1 q hx hy2) h.qx.low, hy, fun q h1 h2 => h.ap1 q h1 (hn q (h.tp.lt q h1) h2), h.ap2, fun h1 => h.ap3 (hn _ (h.lt _ (.inl rfl)) h1)⟩, hq.chg.wide (fun q _ a => .inr (.inr a)), fun q hx2 => ?_⟩
  rcases hx2 with a | a | a
  · exact .inl (.inl a)
  · exact .inl (.inr (.inl a))
  · exact (hq.new q a).imp (fun b => .inr (.inr b)) id
theorem DspI.set {w0 w : World} {B : DspB} {z : DspG} (h : DspI w0 w B z) (i : Nat) (v : Value) {c b k : Nat} (hc : (dspC B z.c z.b z.k).setIfInBounds i v = dspC B c b k) : DspI w0 (w.setCell ⟨B.db, i, none⟩ v) B { z with c := c, b := b, k := k } ∧ QTo w (z.own B) (w.setCell ⟨B.db, i, none⟩ v) (DspG.own B { z with c := c, b := b, k := k }) := by
  have hch : Chg (fun q => q = B.db) w (w.setCell ⟨B.db, i, none⟩ v) := Chg.setCell (S := fun q => q = B.db) (p := ⟨B.db, i, none⟩) (Chg.refl _ _) (fun _ => rfl) _
  refine ⟨⟨?_, h.low, h.tp.away hch (fun q hq hx => h.ap2 (hx ▸ hq)) (fun q hx => hx ▸ h.low), h.qx.away hch (fun q hq hx => h.ap3 (hx ▸ hq)) (fun q hx => hx ▸ h.low), h.ap1, h.ap2, h.ap3⟩, hch.wide (fun q _ a => .inl a), fun q hq => .inl hq⟩
  rw [← hc]
  exact heap_setCell_same w B.db i _ _ v h.at_
theorem dnew_ok {w0 w : World} {tb : Nat} {x : TpG} (h : TpI w0 w tb x) (qb xb : Nat) :
    Calls Tryz.prog 8 #[.pointer (some ⟨tb, 0, none⟩), .pointer (some ⟨qb, 0, none⟩), .pointer (some ⟨xb, 0, none⟩)] w fun e w' => e = .returned (.tuple #[.pointer (some ⟨w.heap.size, 0, none⟩), .int .i64 0]) ∧ w' = w.alloc (.cells (dspC ⟨0, tb, qb, xb⟩ (1024 * x.i0) 0 0) 77) := by
  have hB := tbegin_any h.tg
  rw [h.rc.row.beg] at hB
  unfold dspC
  obtain ⟨c, hc⟩ : ∃ c : Int, c = ((1024 * x.i0 : Nat) : Int) := ⟨_, rfl⟩
  rw [← hc] at hB ⊢
  have HB := Lib.hid hB
  clear hB hc h
  go_enter Tryz.func8, Tryz.ntmps8
  go_wp2_with fail
  refine HB.out.mono ?_
  rintro e w1 ⟨rfl, rfl⟩
  go_wp2_with fail
  go_ret2
  exact ⟨rfl, rfl⟩
end Go.Proofs.YtdnhgodfmjapmaaGreatDoor
