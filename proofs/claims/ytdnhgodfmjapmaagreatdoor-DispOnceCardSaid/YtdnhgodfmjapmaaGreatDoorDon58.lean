/- A part. -/
import Derived.Test.YtdnhgodfmjapmaaGreatDoorDon37
import Derived.Test.YtdnhgodfmjapmaaGreatDoorDon49
import Derived.Test.YtdnhgodfmjapmaaGreatDoorDon53
import Derived.Test.YtdnhgodfmjapmaaGreatDoorDon57
set_option linter.unusedVariables false
set_option linter.unusedSimpArgs false
namespace Go.Proofs.YtdnhgodfmjapmaaGreatDoor
open Go.RowKit Go.Deep
theorem chg_below {w w' : World} (h : Chg (fun _ => False) w w') : Below w.heap.size w w' := h.below (fun _ _ e => e.elim) (Nat.le_refl _)
theorem below_chg {w w' : World} (h : Below w.heap.size w w') : Chg (fun _ => False) w w' := Chg.of_below h
theorem Fine.sound {m : MsgM} (h : Fine m) : Sound m := ⟨by have := h.topic; unfold maxLen; omega, by have := h.tag; unfold maxLen; omega, by have := h.body; omega, by have := h.many; omega, fun t ht => by have := h.keys t ht; unfold maxLen; omega⟩
theorem Sized.below {w w' : World} {p : MsgM × Value} (h : Sized w p) (hb : Below w.heap.size w w') : Sized w' p := ⟨h.strs.below hb (Nat.le_refl _), h.body, h.topic, h.tag, h.many, h.keys⟩
theorem wf_small {n : Int} (h0 : 0 ≤ n) (h : n ≤ 1000000) : (Lit.int .i64 n).wf = true := by
  have h1 : IntKind.i64.min ≤ n ∧ n ≤ IntKind.i64.max := by
    rw [show IntKind.i64.min = (-9223372036854775808 : Int) from by decide, show IntKind.i64.max = (9223372036854775807 : Int) from by decide]
    omega
  simpa [Lit.wf] using h1
def mdN (z : DspG) : List Int := ((RS z).flatMap mdL).map fun r => (r.id : Int)
theorem ones_in {l : List Int} {n : Int} (hn : ((onesM l).map (·.1)).Nodup) (h : n ∈ l) : getK (onesM l) n = some true := by
  obtain ⟨i, hi⟩ := List.getElem?_of_mem h
  unfold getK
  have hm : ∃ p ∈ onesM l, decide (p.1 = n) = true := ⟨(n, true), List.mem_map.2 ⟨n, h, rfl⟩, by simp⟩
  cases hf : (onesM l).find? (fun p => decide (p.1 = n)) with
  | none =>
    obtain ⟨p, h1, h2⟩ := hm
    exact absurd h2 (by simpa using List.find?_eq_none.1 hf p h1)
  | some p =>
    have := List.mem_of_find?_eq_some hf
    obtain ⟨x, _, rfl⟩ := List.mem_map.1 this
    rfl
theorem RigI.chg {S : Nat → Prop} {w w' : World} {rb : Nat} {B : DspB} {z : DspG} (h : RigI w rb B z) (hc : Chg S w w') (hn : ¬ S rb) : RigI w' rb B z := ⟨hc.heap h.at_ hn, Nat.lt_of_lt_of_le h.out.1 hc.size, h.out.2⟩
structure OnI (w0 w : World) (B : DspB) (z : DspG) (D : List RcM) (rb mb k : Nat) (l p : List Int) : Prop where
  lw : LwD w0 w B z D k
  rig : RigI w rb B z
  out : OutD w B z mb
  mp : MapK nK boolEl w mb (onesM l)
  eq : mdN z = l ++ p
  low : w0.heap.size ≤ mb
  ne : rb ≠ mb
variable {w0 w w' : World} {B : DspB} {z z' : DspG} {D D' : List RcM} {rb mb k k' : Nat} {l p p' : List Int}
theorem OnI.qt (h : OnI w0 w B z D rb mb k l p) (hl : LwD w0 w' B z' D' k') (hq : QTo w (z.own B) w' (z'.own B)) (he : mdN z' = l ++ p') : OnI w0 w' B z' D' rb mb k' l p' :=
  ⟨hl, h.rig.qt hq, (h.out.to hq).1, h.mp.heap (h.out.to hq).2, he, h.low, h.ne⟩
theorem OnI.new (h : OnI w0 w B z D rb mb k l p) (hc : Chg (fun _ => False) w w') : OnI w0 w' B z D rb mb k l p := h.qt (h.lw.new hc) (QTo.of_new hc) h.eq
theorem OnI.more (h : OnI w0 w B z D rb mb k l p) (hk : k ≤ k') : OnI w0 w B z D rb mb k' l p := { h with lw := h.lw.more hk }
theorem OnI.put (h : OnI w0 w B z D rb mb k l p) (hc : Chg (fun q => q = mb) w w') {l' : List Int} (hm : MapK nK boolEl w' mb (onesM l')) (he : mdN z = l' ++ p') : OnI w0 w' B z D rb mb k l' p' :=
  ⟨h.lw.away hc (fun q hq hx => h.out.2 (hx ▸ hq)) (fun q hx => by rw [hx]; exact h.low), h.rig.chg hc h.ne, ⟨Nat.lt_of_lt_of_le h.out.1 hc.size, h.out.2⟩, hm, he, h.low, h.ne⟩
theorem OnI.away {S : Nat → Prop} (h : OnI w0 w B z D rb mb k l p) (hc : Chg S w w') (hS : ∀ q, z.own B q → ¬ S q) (hr : ¬ S rb) (hm : ¬ S mb) (hl : ∀ q, S q → w0.heap.size ≤ q) : OnI w0 w' B z D rb mb k l p :=
  ⟨h.lw.away hc hS hl, h.rig.chg hc hr, ⟨Nat.lt_of_lt_of_le h.out.1 hc.size, h.out.2⟩, h.mp.heap (hc.block _ h.out.1 hm), h.eq, h.low, h.ne⟩
theorem mdN_snoc {r : RcM} (h : RS z' = RS z ++ [r]) : mdN z' = mdN z ++ (mdL r).map (fun r => (r.id : Int)) := by
  unfold mdN
  rw [h, List.flatMap_append, List.map_append]
  simp
theorem mdN_lt {z : DspG} {n : Nat} (h : ∀ r ∈ RS z, r.id < n) : (n : Int) ∉ mdN z := fun hx => by
  obtain ⟨r, hr, e⟩ := List.mem_map.1 hx
  obtain ⟨r', hr', hm⟩ := List.mem_flatMap.1 hr
  unfold mdL at hm
  split at hm
  · rw [List.mem_singleton] at hm
    subst hm
    have := h r hr'
    omega
  · cases hm
theorem mdN_len (z : DspG) : (mdN z).length ≤ (RS z).length := by
  unfold mdN
  rw [List.length_map]
  exact mdL_flat _
def AppOnTo (w0 w : World) (B : DspB) (z : DspG) (D : List RcM) (rb mb k : Nat) (l : List Int) (M : MsgM) (e : Ending) (w' : World) : Prop :=
  (∃ er : Int, er ≠ 0 ∧ e = .returned (.tuple #[.int .i64 0, .int .i64 er]) ∧ OnI w0 w' B z D rb mb (k + 1) l [] ∧ Below w.heap.size w w') ∨
  (∃ id len z', e = .returned (.tuple #[.int .i64 ((id : Nat) : Int), .int .i64 0]) ∧ OnI w0 w' B z' D rb mb (k + 1) l (if isMD M then [((id : Nat) : Int)] else []) ∧ QTo w (z.own B) w' (z'.own B) ∧ ((id : Nat) : Int) ∉ l ∧ id ≤ 1000000 ∧ RS z' = RS z ++ [⟨id, len, M⟩])
theorem OnI.append (h : OnI w0 w B z D rb mb k l []) (hk : k ≤ 60) (M : MsgM) (vk : Value) (hks : Strs w 0 vk M.keys) (hcap : CapOk vk) (hs : Sound M) :
    Calls Tryz.prog 14 #[.pointer (some ⟨B.tb, 0, none⟩), M.val vk] w (AppOnTo w0 w B z D rb mb k l M) := by
  refine (h.lw.append (by omega) M vk hks hcap hs).mono ?_
  rintro e w' (⟨er, q1, _, rfl, hb⟩ | ⟨id, len, z2, rfl, hL2, hq2, a1, a2, a3, a4, a5, a6, a7⟩)
  · exact .inl ⟨er, q1, rfl, (h.new (below_chg hb)).more (by omega), hb⟩
  · have he := h.eq
    rw [List.append_nil] at he
    refine .inr ⟨id, len, z2, rfl, h.qt hL2 hq2 ?_, hq2, ?_, by omega, a1⟩
    · rw [mdN_snoc a1, he]
      congr 1
      unfold mdL
      split <;> rfl
    · rw [← he]
      exact mdN_lt a7
theorem dflat_get {α β : Type} {enc : α → List β} {k : Nat} (hk : ∀ x, (enc x).length = k) (l : List α) (i j : Nat) (hj : j < k) : (l.flatMap enc)[i * k + j]? = (l[i]?).bind fun x => (enc x)[j]? := by
  induction l generalizing i with
  | nil => simp
  | cons x l ih =>
    rw [List.flatMap_cons, List.getElem?_append]
    cases i with
    | zero => rw [if_pos (by rw [hk]; omega), Nat.zero_mul, Nat.zero_add]; rfl
    | succ i =>
      rw [if_neg (by rw [hk, Nat.add_mul]; omega), hk, List.getElem?_cons_succ, ← ih i]
      congr 1
      rw [Nat.add_mul]; omega
theorem qrow_form {w : World} {b : Nat} {t : TypeId} {k n : Nat} {v : Value} {xs : List Value} (h : w.ownsRow b t k v n xs) : ∃ a cap, v = .slice a n cap ∧ ∀ j u, xs[j]? = some u → ∃ g, a = some ⟨g, 0, none⟩ ∧ b ≤ g ∧ g < w.heap.size ∧ w.cell? ⟨g, j, none⟩ = some u := by
  have hc := fun (g : Nat) (hg : v.ownBlock = some g) => World.ownsRow.cells h (g := g) hg
  have h1 := h.1
  rcases h.2 with ⟨rfl, h0⟩ | ⟨g, cap, cur, rfl, hbase, hb, _⟩
  · refine ⟨none, 0, by rw [h0], fun j u hu => ?_⟩
    have : xs = [] := by
      apply List.eq_nil_of_length_eq_zero
      rw [h1, h0, Nat.zero_mul]
    rw [this] at hu
    cases hu
  · refine ⟨_, cap, rfl, fun j u hu => ⟨g, rfl, hbase, (Array.getElem?_eq_some_iff.1 hb).1, ?_⟩⟩
    have := hc g rfl j u hu
    have e : (⟨g, 0, none⟩ : Addr).add j = ⟨g, j, none⟩ := by unfold Addr.add; split <;> simp_all
    rw [e] at this
    exact this
def esI (L : List (QK × LnM)) (k : QK) : List Int := (lnD L k).es.map (·.a)
def qF (L : List (QK × LnM)) (l : List QK) : List Int := l.flatMap (esI L)
theorem qF_perm {L : List (QK × LnM)} (hn : (L.map (·.1)).Nodup) {l : List QK} (hp : l.Perm (L.map (·.1))) : (qF L l).Perm (L.flatMap fun p => p.2.es.map (·.a)) := by
  refine (hp.flatMap_right (esI L)).trans ?_
  have e : (L.map (·.1)).flatMap (esI L) = L.flatMap fun p => p.2.es.map (·.a) := by
    rw [List.flatMap_def, List.flatMap_def, List.map_map]
    congr 1
    refine List.map_congr_left fun p hp => ?_
    have : lnD L p.1 = p.2 := by
      unfold lnD
      rw [getK_of (b := p.2) hn hp]
      rfl
    show esI L p.1 = _
    unfold esI
    rw [this]
  rw [e]
theorem qF_take {L : List (QK × LnM)} {l : List QK} {i : Nat} {k : QK} (h : l[i]? = some k) : qF L (l.take (i + 1)) = qF L (l.take i) ++ esI L k := by
  rw [List.take_add_one, h]
  unfold qF
  rw [List.flatMap_append]
  simp
theorem qF_split {L : List (QK × LnM)} {l : List QK} {i : Nat} {k : QK} (h : l[i]? = some k) : qF L l = qF L (l.take i) ++ (esI L k ++ qF L (l.drop (i + 1))) := by
  obtain ⟨h1, h2⟩ := List.getElem?_eq_some_iff.1 h
  have e : l = l.take i ++ (k :: l.drop (i + 1)) := by
    rw [← h2, ← List.drop_eq_getElem_cons h1, List.take_append_drop]
  have : qF L l = qF L (l.take i ++ (k :: l.drop (i + 1))) := congrArg _ e
  rw [this]
  unfold qF
  rw [List.flatMap_append, List.flatMap_cons]
theorem qF_new {L : List (QK × LnM)} {l : List QK} (hn : (qF L l).Nodup) {i p : Nat} {k : QK} {x : Int} (h : l[i]? = some k) (hx : (esI L k)[p]? = some x) : x ∉ qF L (l.take i) ++ (esI L k).take p ∧ x ∈ qF L l := by
  rw [qF_split h] at hn ⊢
  have hm := List.mem_of_getElem? hx
  refine ⟨fun hh => ?_, List.mem_append_right _ (List.mem_append_left _ hm)⟩
  obtain ⟨_, h2, h3⟩ := List.nodup_append.1 hn
  rcases List.mem_append.1 hh with a | a
  · exact h3 x a x (List.mem_append_left _ hm) rfl
  · obtain ⟨h4, _, _⟩ := List.nodup_append.1 h2
    obtain ⟨h5, h6⟩ := List.getElem?_eq_some_iff.1 hx
    obtain ⟨j, h7, h8⟩ := List.getElem_of_mem a
    rw [List.length_take] at h7
    rw [List.getElem_take] at h8
    have := (List.getElem_inj h4).1 (h8.trans h6.symm)
    omega
theorem rs_nodup {p : Nat} {l : List (MsgM × List UInt8)} (hl : LaidAt p l) : (((recsI p l).flatMap mdL).map fun r => (r.id : Int)).Nodup := by
  have h := recsI_sorted hl
  have h0 := fun r hr => (recsI_put hl r hr)
  generalize recsI p l = R at h h0
  induction R with
  | nil => exact List.nodup_nil
  | cons r R ih =>
    obtain ⟨h1, h2⟩ := List.pairwise_cons.1 h
    have ih := ih h2 (fun r hr => h0 r (List.mem_cons_of_mem _ hr))
    rw [List.flatMap_cons, List.map_append]
    refine List.nodup_append.2 ⟨?_, ih, fun a ha b hb hab => ?_⟩
    · unfold mdL
      split
      · exact List.nodup_cons.2 ⟨(fun x => by cases x), List.nodup_nil⟩
      · exact List.nodup_nil
    · obtain ⟨q, hq, e⟩ := List.mem_map.1 hb
      obtain ⟨q', hq', e'⟩ := List.mem_flatMap.1 hq
      obtain ⟨q2, hq2, e2⟩ := List.mem_map.1 ha
      have hm1 : q2 = r := by
        unfold mdL at hq2
        split at hq2
        · exact List.mem_singleton.1 hq2
        · cases hq2
      have hm2 : q = q' := by
        unfold mdL at e'
        split at e'
        · exact List.mem_singleton.1 e'
        · cases e'
      subst hm1
      subst hm2
      have h3 := h1 q hq'
      obtain ⟨_, _, _, _, h4, _⟩ := h0 q2 (List.mem_cons_self ..)
      omega
theorem LwD.mdN_small {w0 w : World} {B : DspB} {z : DspG} {D : List RcM} {k : Nat} (h : LwD w0 w B z D k) (hk : k ≤ 60) : ∀ x ∈ mdN z, 0 ≤ x ∧ x ≤ 1000000 := fun x hx => by
  obtain ⟨r, hr, rfl⟩ := List.mem_map.1 hx
  obtain ⟨r', hr', hm⟩ := List.mem_flatMap.1 hr
  have e : r = r' := by
    unfold mdL at hm
    split at hm
    · exact List.mem_singleton.1 hm
    · cases hm
  subst e
  have h1 := h.lt_end hr'
  have h2 := h.len
  have h3 := h.i0
  rw [h3] at h1
  exact ⟨Int.natCast_nonneg _, by omega⟩
set_option maxHeartbeats 4000000 in
set_option maxRecDepth 100000 in
theorem walkF_DispOnce (v : Value) (ms : List (MsgM × Value)) (st : Int) (w : World) (ht : Tab10 w) (hv : MsgsAt w v ms) (hl : ms.length ≤ maxLen) (hs : ∀ p ∈ ms, Sized w p ∧ CapOk p.2) (h8 : (Lit.int .u8 st).wf = true) :
    Calls Tryz.prog 4 #[v, .int .u8 st] w fun e w' => e = .returned (.bool true) ∧ Below w.heap.size w w' := by
  have h8' : 0 ≤ st ∧ st ≤ 255 := by
    have h2 : IntKind.u8.min ≤ st ∧ st ≤ IntKind.u8.max := by simpa [Lit.wf] using h8
    have e1 : IntKind.u8.min = 0 := by decide
    have e2 : IntKind.u8.max = 255 := by decide
    omega
  obtain ⟨a0, a255⟩ := h8'
  unfold maxLen at hl
  have HTB := Lib.hid ht
  have HV := Lib.hid hv
  have HS := Lib.hid hs
  obtain ⟨a, cap, rfl⟩ := hv.form
  obtain ⟨n, hn⟩ : ∃ n, n = ms.length := ⟨_, rfl⟩
  have HN := Lib.hid hn
  rw [← hn] at HV hl ⊢
  have hmm := @run_makeMap Tryz.prog
  clear ht hv hs hn h8
  go_enter Tryz.func4, Tryz.ntmps4
  go_wp2_with fail
  refine (dawake_any w HTB.out).mono ?_
  rintro e w1 ⟨rfl, hc1⟩
  have HC1 := Lib.hid hc1
  clear hc1
  by_cases h60 : 60 < n
  · go_wp2_with fail
    go_ret
    exact ⟨rfl, chg_below HC1.out⟩
  go_wp2_with fail
  refine (great_msgs _ ms w1 (HV.out.keep HC1.out (fun _ _ e => e)) (by rw [← HN.out]; omega) (fun p hp => (HS.out p hp).1.below (chg_below HC1.out))).mono ?_
  rintro e w2 ⟨z, rfl, hf, hb2⟩
  have HC2 := Lib.hid (HC1.out.trans (below_chg hb2) (fun _ _ e => e))
  have HF := Lib.hid hf
  clear hb2 hf
  cases z
  case true =>
    go_wp2_with fail
    go_ret
    exact ⟨rfl, chg_below HC2.out⟩
  have HFA := Lib.hid (HF.out rfl)
  clear HF
  have HM := Lib.hid (dmade_any w2 (tab_chg HTB.out HC2.out))
  go_wp2_with fail
  refine HM.out.mono ?_
  rintro e w3 ⟨B, z, rfl, hA, m1, m2, m3, m4, m5, m6, m7⟩
  have hL0 := LwD.of_made hA m1 m2 m4
  have hRs : RS z = [] := by unfold RS; rw [m1]; rfl
  obtain ⟨W3, hW3⟩ : ∃ W, W = w3.alloc (.cells #[.pointer (some ⟨B.tb, 0, none⟩), .pointer (some ⟨B.qb, 0, none⟩), .pointer (some ⟨B.xb, 0, none⟩), .pointer (some ⟨B.db, 0, none⟩)] 29) := ⟨_, rfl⟩
  obtain ⟨W4, hW4⟩ : ∃ W, W = W3.alloc (.map #[] 0) := ⟨_, rfl⟩
  have hc3 : Chg (fun _ => False) w3 W3 := hW3 ▸ Chg.alloc _ (Chg.refl _ _) _
  have hc4 : Chg (fun _ => False) W3 W4 := hW4 ▸ Chg.alloc _ (Chg.refl _ _) _
  have hR3 : RigI W3 w3.heap.size B z := hW3 ▸ RigI.made hL0.a.i
  have hM4 : MapK nK boolEl W4 W3.heap.size [] := hW4 ▸ MapK.made W3
  have hrm : w3.heap.size < W3.heap.size := hR3.out.1
  obtain ⟨rb, hrb⟩ : ∃ r, r = w3.heap.size := ⟨_, rfl⟩
  obtain ⟨mb, hmb⟩ : ∃ r, r = W3.heap.size := ⟨_, rfl⟩
  rw [← hrb] at hR3 hrm
  rw [← hmb] at hM4 hrm
  have hO4 : OnI w2 W4 B z [] rb mb 0 [] [] := by
    have h3 := hL0.new hc3
    refine ⟨h3.new hc4, hR3.new hc4, ⟨hM4.lt, fun hx => ?_⟩, hM4, ?_, ?_, by omega⟩
    · have := h3.a.i.lt _ hx
      omega
    · unfold mdN; rw [hRs]; rfl
    · have := hL0.chg.size
      omega
  have hend : ((1024 * z.x.i0 + (bytesI z.x.l).length : Nat) : Int) ≤ z.x.m.synced := by rw [m1, m2, m3]; decide
  have HO4 : Hid (∃ z D, OnI w2 W4 B z D rb mb 0 [] [] ∧ ((1024 * z.x.i0 + (bytesI z.x.l).length : Nat) : Int) ≤ z.x.m.synced) := Lib.hid ⟨z, [], hO4, hend⟩
  have HW3 := Lib.hid hW3
  have HW4 := Lib.hid hW4
  have HRB := Lib.hid hrb
  have HMB := Lib.hid hmb
  have mb3 : rb + 1 = mb := by rw [hrb, hmb, hW3]; simp
  have HM3 := Lib.hid mb3
  obtain ⟨db, tb, qb, xb⟩ := B
  dsimp only at *
  have x0 : W3.cell? ⟨rb, 0, none⟩ = some (.pointer (some ⟨tb, 0, none⟩)) := hR3.cells.1
  clear hA m1 m2 m3 m4 m5 m6 m7 hL0 hRs hW3 hW4 hc3 hc4 hR3 hM4 hrm hrb hmb hO4 hend mb3
  have s40 : 0 ≤ st % 4 := by omega
  go_upto_region 10 with fail
  rw [← HW3.out, ← HW4.out, ← HRB.out, HM3.out]
  clear x0
  go_loopw [41] (fun i wr => ∃ k : Nat, k ≤ n ∧ i = .int .i64 (k : Int) ∧ Hid (∃ z D l, OnI w2 wr ⟨db, tb, qb, xb⟩ z D rb mb k l [] ∧ ((1024 * z.x.i0 + (bytesI z.x.l).length : Nat) : Int) ≤ z.x.m.synced)) (fun i _ => n - (intOf i).toNat)
  case atStart => exact ⟨0, Nat.zero_le _, rfl, Lib.hid (by obtain ⟨z, D, h1, h2⟩ := HO4.out; exact ⟨z, D, _, h1, h2⟩)⟩
  case round =>
    obtain ⟨k, hk, rfl, HX⟩ := hrel
    obtain ⟨z0, D0, l0, hI, hsy⟩ := HX.out
    have HI := Lib.hid hI
    clear hI hsy
    by_cases hlt : k < n
    · obtain ⟨p, hp⟩ : ∃ p, ms[k]? = some p := ⟨_, List.getElem?_eq_getElem (by rw [← HN.out]; exact hlt)⟩
      have hpm := List.mem_of_getElem? hp
      obtain ⟨M, vk⟩ := p
      have hcw : Chg (fun _ => False) w wr := HC2.out.trans HI.out.lw.chg (fun _ _ e => e)
      obtain ⟨a', cap', e', hx⟩ := HV.out.keep hcw (fun _ _ e => e)
      rcases hx with hx | ⟨b, o, rfl, hbl, hcell⟩
      · rw [hx] at hp; cases hp
      have key := hcell k _ hp
      have hsz : Sized wr (M, vk) := (HS.out _ hpm).1.below (chg_below hcw)
      have hcp : CapOk vk := (HS.out _ hpm).2
      have hfn : Fine M := HFA.out _ hpm
      obtain ⟨hea, hec⟩ : a = some ⟨b, o, none⟩ ∧ cap = cap' := by injection e' with e1 e2 e3; exact ⟨e1, e3⟩
      subst hea
      clear e' hec hcell
      obtain ⟨m1, mq, m3, m4, m5, m6, m7, m8, m9, m10⟩ := M
      obtain ⟨ka, kc, hva⟩ := hsz.strs.form
      dsimp only at hva
      obtain ⟨kl, hkl⟩ : ∃ l, l = m10.length := ⟨_, rfl⟩
      rw [← hkl] at hva
      subst hva
      have f0 : wr.cell? ⟨b, o + k * 10, none⟩ = some (.int .i64 m1) := by first | (simp [MsgM.cells]; done) | simpa [MsgM.cells] using key 0 (by decide)
      have f1 : wr.cell? ⟨b, o + k * 10 + 1, none⟩ = some (.int .i64 mq) := by first | (simp [MsgM.cells]; done) | simpa [MsgM.cells] using key 1 (by decide)
      have f2 : wr.cell? ⟨b, o + k * 10 + 1 + 1, none⟩ = some (.int .i64 m3) := by first | (simp [MsgM.cells]; done) | simpa [MsgM.cells] using key 2 (by decide)
      have f3 : wr.cell? ⟨b, o + k * 10 + 1 + 1 + 1, none⟩ = some (.int .i64 m4) := by first | (simp [MsgM.cells]; done) | simpa [MsgM.cells] using key 3 (by decide)
      have f4 : wr.cell? ⟨b, o + k * 10 + 1 + 1 + 1 + 1, none⟩ = some (.int .i64 m5) := by first | (simp [MsgM.cells]; done) | simpa [MsgM.cells] using key 4 (by decide)
      have f5 : wr.cell? ⟨b, o + k * 10 + 1 + 1 + 1 + 1 + 1, none⟩ = some (.int .i64 m6) := by first | (simp [MsgM.cells]; done) | simpa [MsgM.cells] using key 5 (by decide)
      have f6 : wr.cell? ⟨b, o + k * 10 + 1 + 1 + 1 + 1 + 1 + 1, none⟩ = some (.string m7) := by first | (simp [MsgM.cells]; done) | simpa [MsgM.cells] using key 6 (by decide)
      have f7 : wr.cell? ⟨b, o + k * 10 + 1 + 1 + 1 + 1 + 1 + 1 + 1, none⟩ = some (.string m8) := by first | (simp [MsgM.cells]; done) | simpa [MsgM.cells] using key 7 (by decide)
      have f8 : wr.cell? ⟨b, o + k * 10 + 1 + 1 + 1 + 1 + 1 + 1 + 1 + 1, none⟩ = some (.string m9) := by first | (simp [MsgM.cells]; done) | simpa [MsgM.cells] using key 8 (by decide)
      have f9 : wr.cell? ⟨b, o + k * 10 + 1 + 1 + 1 + 1 + 1 + 1 + 1 + 1 + 1, none⟩ = some (.slice ka kl kc) := by first | (simp [MsgM.cells]; done) | simpa [MsgM.cells] using key 9 (by decide)
      obtain ⟨W1, hW1⟩ : ∃ W, W = wr.alloc (.cells #[.int .i64 m1, .int .i64 mq, .int .i64 m3, .int .i64 m4, .int .i64 m5, .int .i64 m6, .string m7, .string m8, .string m9, .slice ka kl kc] 46) := ⟨_, rfl⟩
      have hb1 : Below wr.heap.size wr W1 := hW1 ▸ (Below.refl _ _).alloc (Nat.le_refl _) _
      have hbx : Box W1 wr.heap.size #[.int .i64 m1, .int .i64 mq, .int .i64 m3, .int .i64 m4, .int .i64 m5, .int .i64 m6, .string m7, .string m8, .string m9, .slice ka kl kc] := hW1 ▸ Box.new wr _
      have hI1 := HI.out.new (below_chg hb1)
      have hbo : OutD W1 ⟨db, tb, qb, xb⟩ z0 wr.heap.size := ⟨hbx.lt, fun hx => Nat.lt_irrefl _ (HI.out.lw.a.i.lt _ hx)⟩
      have hap := hI1.append (by omega) ⟨m1, mq, m3, m4, m5, m6, m7, m8, m9, m10⟩ (.slice ka kl kc) (hsz.strs.below hb1 (Nat.le_refl _)) hcp hfn.sound
      have k0 := hbx.cell
      have x0 : W1.cell? ⟨rb, 0, none⟩ = some (.pointer (some ⟨tb, 0, none⟩)) := hI1.rig.cells.1
      obtain ⟨bx, hbx'⟩ : ∃ q, q = wr.heap.size := ⟨_, rfl⟩
      rw [← hbx'] at hbx hbo k0
      have HBX := Lib.hid hbx
      have HBO := Lib.hid hbo
      have HBB := Lib.hid hbx'
      have HI1 := Lib.hid hI1
      have HAP := Lib.hid hap
      have HW1 := Lib.hid hW1
      clear hp hpm hcw hbl key hsz hcp hfn hW1 hb1 hbx hI1 hbo hap hkl hbx'
      go_upto_region 12 with fail
      rw [← HW1.out, ← HBB.out]
      clear f0 f1 f2 f3 f4 f5 f6 f7 f8 f9
      go_wp2_with fail
      refine HAP.out.mono ?_
      rintro e w5 (⟨er, q1, rfl, hI5, hb5⟩ | ⟨id, len, z5, rfl, hI5, hq5, a5, a6, a7⟩)
      · as_aux_lemma =>
        have k5 := (HBX.out.below hb5 HBX.out.lt).cell
        have HT := Lib.hid hI5
        have HQ1 : (er == (0 : Int)) = false := by simpa using q1
        obtain ⟨W6, hW6⟩ : ∃ W, W = w5 := ⟨_, rfl⟩
        subst hW6
        clear hb5 hI5
        have HSY := Lib.hid (HT.out.lw.sync (by omega))
        have x0 : W6.cell? ⟨rb, 0, none⟩ = some (.pointer (some ⟨tb, 0, none⟩)) := HT.out.rig.cells.1
        go_wp2_with fail
        refine HSY.out.mono ?_
        rintro e w7 ⟨rfl, z7, hL7, hq7, b1, b2, b3, b4, b5, b6, _⟩
        have hI7 : OnI w2 w7 ⟨db, tb, qb, xb⟩ z7 _ rb mb (k + 1) _ [] := HT.out.qt hL7 hq7 (by unfold mdN; rw [b1]; exact HT.out.eq)
        have hs7 : ((1024 * z7.x.i0 + (bytesI z7.x.l).length : Nat) : Int) ≤ z7.x.m.synced := by rw [b4, b5, b6]; exact Int.le_refl _
        have HX7 : Hid (∃ z D l, OnI w2 w7 ⟨db, tb, qb, xb⟩ z D rb mb (k + 1) l [] ∧ ((1024 * z.x.i0 + (bytesI z.x.l).length : Nat) : Int) ≤ z.x.m.synced) := Lib.hid ⟨_, _, _, hI7, hs7⟩
        clear hL7 hq7 b1 b2 b3 b4 b5 b6 hI7 hs7 x0
        go_wp2_with fail
        go_loopw [12] (fun j wi => ∃ jj : Int, 0 ≤ jj ∧ jj ≤ st % 4 ∧ j = .int .i64 jj ∧ Hid (∃ z D l, OnI w2 wi ⟨db, tb, qb, xb⟩ z D rb mb (k + 1) l [] ∧ ((1024 * z.x.i0 + (bytesI z.x.l).length : Nat) : Int) ≤ z.x.m.synced)) (fun j _ => (st % 4 - intOf j).toNat)
        case atStart => exact ⟨0, Int.le_refl _, s40, rfl, HX7⟩
        case round =>
          obtain ⟨jj, hj0, hj4, rfl, HY⟩ := hrel
          by_cases hjl : jj < st % 4
          · obtain ⟨zi, Di, li, hIi, hsi⟩ := HY.out
            have x3 : wr.cell? ⟨rb, 3, none⟩ = some (.pointer (some ⟨db, 0, none⟩)) := hIi.rig.cells.2.2.2
            have HST := Lib.hid hIi.lw.step
            have HII := Lib.hid (And.intro hIi hsi)
            clear hIi hsi
            go_wp2_with fail
            refine HST.out.mono ?_
            rintro e w8 ⟨b8, z8, D8, rfl, hL8, hq8, hx8, _, _⟩
            have hI8 : OnI w2 w8 ⟨db, tb, qb, xb⟩ z8 D8 rb mb (k + 1) li [] := HII.out.1.qt hL8 hq8 (by unfold mdN RS; rw [hx8]; exact HII.out.1.eq)
            have HX8 : Hid (∃ z D l, OnI w2 w8 ⟨db, tb, qb, xb⟩ z D rb mb (k + 1) l [] ∧ ((1024 * z.x.i0 + (bytesI z.x.l).length : Nat) : Int) ≤ z.x.m.synced) := Lib.hid ⟨_, _, _, hI8, by rw [hx8]; exact HII.out.2⟩
            clear hL8 hq8 hx8 hI8 x3
            go_wp2_with fail
            exact ⟨⟨jj + 1, by omega, by omega, by go_num, HX8⟩, by simp [intOf]; omega⟩
          · go_wp2_with fail
            exact ⟨⟨k + 1, by omega, by go_num, HY⟩, by simp [intOf]; omega⟩
      · have HBX5 : Hid (Box w5 bx _) := Lib.hid ((HBO.out.to hq5).2.trans HBX.out)
        clear hq5 a7
        by_cases e1 : m1 = 1
        · as_aux_lemma =>
          subst e1
          have hIP : OnI w2 w5 ⟨db, tb, qb, xb⟩ z5 D0 rb mb (k + 1) l0 [((id : Nat) : Int)] := hI5
          clear hI5
          have HIP := Lib.hid hIP
          have k5 := HBX5.out.cell
          have hid : (Lit.int .i64 ((id : Nat) : Int)).wf = true := wf_small (by omega) (by omega)
          have hml : (onesM l0).length < maxLen := by
            have e1 := congrArg List.length HIP.out.eq
            have e2 := mdN_len z5
            have e3 := HIP.out.lw.rl
            rw [List.length_append] at e1
            unfold onesM maxLen
            rw [List.length_map]
            omega
          have HNI := Lib.hid a5
          clear hIP a5
          go_wp2_with (with_reducible refine wpList_store_ib rfl (.tmp 64) (.tmp 65) (.const (.bool true)) rfl mb (onesM l0) ((id : Nat) : Int) true rfl rfl rfl HIP.out.mp hid hml ?c2)
          case c2 =>
            intro W6 hm6 hg6 hs6
            have hch : Chg (fun x => x = mb) w5 W6 := Chg.of_grown hg6 (fun x hx _ => (Option.some.inj hx).symm)
            rw [ones_put HNI.out] at hm6
            have HT := Lib.hid (HIP.out.put (p' := []) hch hm6 (by rw [List.append_nil]; exact HIP.out.eq))
            clear hm6 hg6 hs6 hch hml hid k5
            have HSY := Lib.hid (HT.out.lw.sync (by omega))
            have x0 : W6.cell? ⟨rb, 0, none⟩ = some (.pointer (some ⟨tb, 0, none⟩)) := HT.out.rig.cells.1
            go_wp2_with fail
            refine HSY.out.mono ?_
            rintro e w7 ⟨rfl, z7, hL7, hq7, b1, b2, b3, b4, b5, b6, _⟩
            have hI7 : OnI w2 w7 ⟨db, tb, qb, xb⟩ z7 _ rb mb (k + 1) _ [] := HT.out.qt hL7 hq7 (by unfold mdN; rw [b1]; exact HT.out.eq)
            have hs7 : ((1024 * z7.x.i0 + (bytesI z7.x.l).length : Nat) : Int) ≤ z7.x.m.synced := by rw [b4, b5, b6]; exact Int.le_refl _
            have HX7 : Hid (∃ z D l, OnI w2 w7 ⟨db, tb, qb, xb⟩ z D rb mb (k + 1) l [] ∧ ((1024 * z.x.i0 + (bytesI z.x.l).length : Nat) : Int) ≤ z.x.m.synced) := Lib.hid ⟨_, _, _, hI7, hs7⟩
            clear hL7 hq7 b1 b2 b3 b4 b5 b6 hI7 hs7 x0
            go_wp2_with fail
            go_loopw [12] (fun j wi => ∃ jj : Int, 0 ≤ jj ∧ jj ≤ st % 4 ∧ j = .int .i64 jj ∧ Hid (∃ z D l, OnI w2 wi ⟨db, tb, qb, xb⟩ z D rb mb (k + 1) l [] ∧ ((1024 * z.x.i0 + (bytesI z.x.l).length : Nat) : Int) ≤ z.x.m.synced)) (fun j _ => (st % 4 - intOf j).toNat)
            case atStart => exact ⟨0, Int.le_refl _, s40, rfl, HX7⟩
            case round =>
              obtain ⟨jj, hj0, hj4, rfl, HY⟩ := hrel
              by_cases hjl : jj < st % 4
              · obtain ⟨zi, Di, li, hIi, hsi⟩ := HY.out
                have x3 : wr.cell? ⟨rb, 3, none⟩ = some (.pointer (some ⟨db, 0, none⟩)) := hIi.rig.cells.2.2.2
                have HST := Lib.hid hIi.lw.step
                have HII := Lib.hid (And.intro hIi hsi)
                clear hIi hsi
                go_wp2_with fail
                refine HST.out.mono ?_
                rintro e w8 ⟨b8, z8, D8, rfl, hL8, hq8, hx8, _, _⟩
                have hI8 : OnI w2 w8 ⟨db, tb, qb, xb⟩ z8 D8 rb mb (k + 1) li [] := HII.out.1.qt hL8 hq8 (by unfold mdN RS; rw [hx8]; exact HII.out.1.eq)
                have HX8 : Hid (∃ z D l, OnI w2 w8 ⟨db, tb, qb, xb⟩ z D rb mb (k + 1) l [] ∧ ((1024 * z.x.i0 + (bytesI z.x.l).length : Nat) : Int) ≤ z.x.m.synced) := Lib.hid ⟨_, _, _, hI8, by rw [hx8]; exact HII.out.2⟩
                clear hL8 hq8 hx8 hI8 x3
                go_wp2_with fail
                exact ⟨⟨jj + 1, by omega, by omega, by go_num, HX8⟩, by simp [intOf]; omega⟩
              · go_wp2_with fail
                exact ⟨⟨k + 1, by omega, by go_num, HY⟩, by simp [intOf]; omega⟩
        · by_cases e3 : m1 = 3
          · as_aux_lemma =>
            subst e3
            have hIP : OnI w2 w5 ⟨db, tb, qb, xb⟩ z5 D0 rb mb (k + 1) l0 [((id : Nat) : Int)] := hI5
            clear hI5 e1
            have HIP := Lib.hid hIP
            have k5 := HBX5.out.cell
            have hid : (Lit.int .i64 ((id : Nat) : Int)).wf = true := wf_small (by omega) (by omega)
            have hml : (onesM l0).length < maxLen := by
              have e1 := congrArg List.length HIP.out.eq
              have e2 := mdN_len z5
              have e3 := HIP.out.lw.rl
              rw [List.length_append] at e1
              unfold onesM maxLen
              rw [List.length_map]
              omega
            have HNI := Lib.hid a5
            clear hIP a5
            go_wp2_with (with_reducible refine wpList_store_ib rfl (.tmp 64) (.tmp 65) (.const (.bool true)) rfl mb (onesM l0) ((id : Nat) : Int) true rfl rfl rfl HIP.out.mp hid hml ?c2)
            case c2 =>
              intro W6 hm6 hg6 hs6
              have hch : Chg (fun x => x = mb) w5 W6 := Chg.of_grown hg6 (fun x hx _ => (Option.some.inj hx).symm)
              rw [ones_put HNI.out] at hm6
              have HT := Lib.hid (HIP.out.put (p' := []) hch hm6 (by rw [List.append_nil]; exact HIP.out.eq))
              clear hm6 hg6 hs6 hch hml hid k5
              have HSY := Lib.hid (HT.out.lw.sync (by omega))
              have x0 : W6.cell? ⟨rb, 0, none⟩ = some (.pointer (some ⟨tb, 0, none⟩)) := HT.out.rig.cells.1
              go_wp2_with fail
              refine HSY.out.mono ?_
              rintro e w7 ⟨rfl, z7, hL7, hq7, b1, b2, b3, b4, b5, b6, _⟩
              have hI7 : OnI w2 w7 ⟨db, tb, qb, xb⟩ z7 _ rb mb (k + 1) _ [] := HT.out.qt hL7 hq7 (by unfold mdN; rw [b1]; exact HT.out.eq)
              have hs7 : ((1024 * z7.x.i0 + (bytesI z7.x.l).length : Nat) : Int) ≤ z7.x.m.synced := by rw [b4, b5, b6]; exact Int.le_refl _
              have HX7 : Hid (∃ z D l, OnI w2 w7 ⟨db, tb, qb, xb⟩ z D rb mb (k + 1) l [] ∧ ((1024 * z.x.i0 + (bytesI z.x.l).length : Nat) : Int) ≤ z.x.m.synced) := Lib.hid ⟨_, _, _, hI7, hs7⟩
              clear hL7 hq7 b1 b2 b3 b4 b5 b6 hI7 hs7 x0
              go_wp2_with fail
              go_loopw [12] (fun j wi => ∃ jj : Int, 0 ≤ jj ∧ jj ≤ st % 4 ∧ j = .int .i64 jj ∧ Hid (∃ z D l, OnI w2 wi ⟨db, tb, qb, xb⟩ z D rb mb (k + 1) l [] ∧ ((1024 * z.x.i0 + (bytesI z.x.l).length : Nat) : Int) ≤ z.x.m.synced)) (fun j _ => (st % 4 - intOf j).toNat)
              case atStart => exact ⟨0, Int.le_refl _, s40, rfl, HX7⟩
              case round =>
                obtain ⟨jj, hj0, hj4, rfl, HY⟩ := hrel
                by_cases hjl : jj < st % 4
                · obtain ⟨zi, Di, li, hIi, hsi⟩ := HY.out
                  have x3 : wr.cell? ⟨rb, 3, none⟩ = some (.pointer (some ⟨db, 0, none⟩)) := hIi.rig.cells.2.2.2
                  have HST := Lib.hid hIi.lw.step
                  have HII := Lib.hid (And.intro hIi hsi)
                  clear hIi hsi
                  go_wp2_with fail
                  refine HST.out.mono ?_
                  rintro e w8 ⟨b8, z8, D8, rfl, hL8, hq8, hx8, _, _⟩
                  have hI8 : OnI w2 w8 ⟨db, tb, qb, xb⟩ z8 D8 rb mb (k + 1) li [] := HII.out.1.qt hL8 hq8 (by unfold mdN RS; rw [hx8]; exact HII.out.1.eq)
                  have HX8 : Hid (∃ z D l, OnI w2 w8 ⟨db, tb, qb, xb⟩ z D rb mb (k + 1) l [] ∧ ((1024 * z.x.i0 + (bytesI z.x.l).length : Nat) : Int) ≤ z.x.m.synced) := Lib.hid ⟨_, _, _, hI8, by rw [hx8]; exact HII.out.2⟩
                  clear hL8 hq8 hx8 hI8 x3
                  go_wp2_with fail
                  exact ⟨⟨jj + 1, by omega, by omega, by go_num, HX8⟩, by simp [intOf]; omega⟩
                · go_wp2_with fail
                  exact ⟨⟨k + 1, by omega, by go_num, HY⟩, by simp [intOf]; omega⟩
          · as_aux_lemma =>
            have hmd : isMD ⟨m1, mq, m3, m4, m5, m6, m7, m8, m9, m10⟩ = false := by simp [isMD, e1, e3]
            rw [hmd] at hI5
            have hIP : OnI w2 w5 ⟨db, tb, qb, xb⟩ z5 D0 rb mb (k + 1) l0 [] := hI5
            have E1 : (m1 == (1 : Int)) = false := by simpa using e1
            have E3 : (m1 == (3 : Int)) = false := by simpa using e3
            clear hI5 hmd e1 e3
            have k5 := HBX5.out.cell
            have HT := Lib.hid hIP
            obtain ⟨W6, hW6⟩ : ∃ W, W = w5 := ⟨_, rfl⟩
            subst hW6
            clear hIP a5
            have HSY := Lib.hid (HT.out.lw.sync (by omega))
            have x0 : W6.cell? ⟨rb, 0, none⟩ = some (.pointer (some ⟨tb, 0, none⟩)) := HT.out.rig.cells.1
            go_wp2_with fail
            refine HSY.out.mono ?_
            rintro e w7 ⟨rfl, z7, hL7, hq7, b1, b2, b3, b4, b5, b6, _⟩
            have hI7 : OnI w2 w7 ⟨db, tb, qb, xb⟩ z7 _ rb mb (k + 1) _ [] := HT.out.qt hL7 hq7 (by unfold mdN; rw [b1]; exact HT.out.eq)
            have hs7 : ((1024 * z7.x.i0 + (bytesI z7.x.l).length : Nat) : Int) ≤ z7.x.m.synced := by rw [b4, b5, b6]; exact Int.le_refl _
            have HX7 : Hid (∃ z D l, OnI w2 w7 ⟨db, tb, qb, xb⟩ z D rb mb (k + 1) l [] ∧ ((1024 * z.x.i0 + (bytesI z.x.l).length : Nat) : Int) ≤ z.x.m.synced) := Lib.hid ⟨_, _, _, hI7, hs7⟩
            clear hL7 hq7 b1 b2 b3 b4 b5 b6 hI7 hs7 x0
            go_wp2_with fail
            go_loopw [12] (fun j wi => ∃ jj : Int, 0 ≤ jj ∧ jj ≤ st % 4 ∧ j = .int .i64 jj ∧ Hid (∃ z D l, OnI w2 wi ⟨db, tb, qb, xb⟩ z D rb mb (k + 1) l [] ∧ ((1024 * z.x.i0 + (bytesI z.x.l).length : Nat) : Int) ≤ z.x.m.synced)) (fun j _ => (st % 4 - intOf j).toNat)
            case atStart => exact ⟨0, Int.le_refl _, s40, rfl, HX7⟩
            case round =>
              obtain ⟨jj, hj0, hj4, rfl, HY⟩ := hrel
              by_cases hjl : jj < st % 4
              · obtain ⟨zi, Di, li, hIi, hsi⟩ := HY.out
                have x3 : wr.cell? ⟨rb, 3, none⟩ = some (.pointer (some ⟨db, 0, none⟩)) := hIi.rig.cells.2.2.2
                have HST := Lib.hid hIi.lw.step
                have HII := Lib.hid (And.intro hIi hsi)
                clear hIi hsi
                go_wp2_with fail
                refine HST.out.mono ?_
                rintro e w8 ⟨b8, z8, D8, rfl, hL8, hq8, hx8, _, _⟩
                have hI8 : OnI w2 w8 ⟨db, tb, qb, xb⟩ z8 D8 rb mb (k + 1) li [] := HII.out.1.qt hL8 hq8 (by unfold mdN RS; rw [hx8]; exact HII.out.1.eq)
                have HX8 : Hid (∃ z D l, OnI w2 w8 ⟨db, tb, qb, xb⟩ z D rb mb (k + 1) l [] ∧ ((1024 * z.x.i0 + (bytesI z.x.l).length : Nat) : Int) ≤ z.x.m.synced) := Lib.hid ⟨_, _, _, hI8, by rw [hx8]; exact HII.out.2⟩
                clear hL8 hq8 hx8 hI8 x3
                go_wp2_with fail
                exact ⟨⟨jj + 1, by omega, by omega, by go_num, HX8⟩, by simp [intOf]; omega⟩
              · go_wp2_with fail
                exact ⟨⟨k + 1, by omega, by go_num, HY⟩, by simp [intOf]; omega⟩
    · as_aux_lemma =>
      obtain rfl : k = n := by omega
      obtain ⟨za, Da, la, hIa, hsya⟩ := HX.out
      have hk60 : k ≤ 60 := by omega
      have HAL := Lib.hid (hIa.lw.all_ hsya)
      have x3 : wr.cell? ⟨rb, 3, none⟩ = some (.pointer (some ⟨db, 0, none⟩)) := hIa.rig.cells.2.2.2
      have HIA := Lib.hid hIa
      clear hIa hsya hlt hk HI HX
      go_wp2_with fail
      refine HAL.out.mono ?_
      rintro e w5 ⟨na, z5, rfl, hL5, hq5, hx5, ht5⟩
      have hI5 : OnI w2 w5 ⟨db, tb, qb, xb⟩ z5 ((RS za).flatMap mdL) rb mb k la [] := HIA.out.qt hL5 hq5 (by unfold mdN RS; rw [hx5]; exact HIA.out.eq)
      have hlf := dleft_any hL5.a.i hL5.a.l
      rw [ht5] at hlf
      have hlf : Calls Tryz.prog 12 #[.pointer (some ⟨db, 0, none⟩)] w5 fun e w' => e = .returned (.int .i64 0) ∧ Chg (fun _ => False) w5 w' := hlf
      have x3 : w5.cell? ⟨rb, 3, none⟩ = some (.pointer (some ⟨db, 0, none⟩)) := hI5.rig.cells.2.2.2
      have HLF := Lib.hid hlf
      have HI5 := Lib.hid hI5
      have HX5 := Lib.hid hx5
      have HT5 := Lib.hid ht5
      clear hL5 hq5 hx5 ht5 hI5 hlf
      go_wp2_with fail
      refine HLF.out.mono ?_
      rintro e w6 ⟨rfl, hc6⟩
      have hI6 := HI5.out.new hc6
      have HST := Lib.hid hI6.lw.step
      have x3 : w6.cell? ⟨rb, 3, none⟩ = some (.pointer (some ⟨db, 0, none⟩)) := hI6.rig.cells.2.2.2
      have HI6 := Lib.hid hI6
      clear hI6 hc6
      go_wp2_with fail
      refine HST.out.mono ?_
      rintro e w7 ⟨b7, z7, D7, rfl, hL7, hq7, hx7, hn7, _⟩
      obtain ⟨hb7, hd7, ht7⟩ := hn7 (.inl HT5.out)
      subst hb7
      rw [hd7] at hL7
      have hI7 : OnI w2 w7 ⟨db, tb, qb, xb⟩ z7 ((RS za).flatMap mdL) rb mb k la [] := HI6.out.qt hL7 hq7 (by unfold mdN RS; rw [hx7]; exact HI6.out.eq)
      have hRz : RS z7 = RS za := by unfold RS; rw [hx7, HX5.out]
      have hla : la = ((RS za).flatMap mdL).map fun r => (r.id : Int) := by
        have := hI7.eq
        unfold mdN at this
        rw [List.append_nil, hRz] at this
        exact this.symm
      have hnd : la.Nodup := by
        have := rs_nodup hL7.a.i.tp.la'
        rw [hla, ← hRz]
        exact this
      have hlal : la.length ≤ 60 := by
        have e2 := mdN_len z7
        have e3 := hL7.rl
        have := hI7.eq
        rw [List.append_nil] at this
        rw [this] at e2
        omega
      have hsm : ∀ x ∈ la, 0 ≤ x ∧ x ≤ 1000000 := fun x hx => hL7.mdN_small hk60 x (by have := hI7.eq; rw [List.append_nil] at this; rw [this]; exact hx)
      have HSM := Lib.hid hsm
      obtain ⟨L, hL⟩ : ∃ L, L = z7.y.L := ⟨_, rfl⟩
      have hrel := hL7.a.n.rel
      have hzero : ∀ k, (lnD L k).base = 0 ∧ (lnD L k).least = 0 := fun k => by rw [hL]; exact lnD_zero hL7.a.n.ln k
      have hkeys : (L.map (·.1)).Nodup := by rw [hL]; exact hL7.a.i.qx.q.q.keys
      have hperm : (L.flatMap fun p => p.2.es.map (·.a)).Perm la := by rw [hL, hla]; exact hrel.all
      have hLl : L.length ≤ 60 := by
        have e1 := hrel.len
        rw [← hL] at e1
        have e2 := congrArg List.length hla
        rw [List.length_map] at e2
        omega
      have hmd := manyD_le hL7.a.n.md
      have hn2 := hL7.a.n.n
      have hmn : z7.y.n ≤ 100000 := by
        have e2 := congrArg List.length hla
        rw [List.length_map] at e2
        omega
      obtain ⟨W8, hW8⟩ : ∃ W, W = w7.alloc (.map #[] 0) := ⟨_, rfl⟩
      obtain ⟨sb, hsb⟩ : ∃ q, q = w7.heap.size := ⟨_, rfl⟩
      have hc8 : Chg (fun _ => False) w7 W8 := hW8 ▸ Chg.alloc _ (Chg.refl _ _) _
      have hM8 : MapK nK boolEl W8 sb [] := by rw [hW8, hsb]; exact MapK.made w7
      have hI8 := hI7.new hc8
      have hrb8 := hI7.rig.out.1
      have hmb8 := hI7.out.1
      have hso : ∀ q, z7.own ⟨db, tb, qb, xb⟩ q → q ≠ sb := fun q hq => by have := hI7.lw.a.i.lt q hq; omega
      have hs0 : w2.heap.size ≤ sb := by rw [hsb]; exact hI7.lw.chg.size
      rw [← hsb] at hrb8 hmb8
      have hqa := qall_any hI8.lw.a.i.qx.q (by rw [← hL]; omega) hmn
      rw [← hL] at hqa
      have HQA := Lib.hid hqa
      have HQS : Hid (∀ W S, Chg S W8 W → (∀ q, S q → sb ≤ q) → OnI w2 W ⟨db, tb, qb, xb⟩ z7 ((RS za).flatMap mdL) rb mb k la []) := Lib.hid (fun W S hc hS => hI8.away hc (fun q hq hx => by
          have h1 := hS q hx
          have h2 := hI7.lw.a.i.lt q hq
          omega) (fun hx => by have := hS _ hx; omega) (fun hx => by have := hS _ hx; omega) (fun q hx => Nat.le_trans hs0 (hS q hx)))
      have HP := Lib.hid (And.intro hperm (And.intro hnd (And.intro hkeys hzero)))
      have HLE := Lib.hid (And.intro hL (And.intro hmn hlal))
      have HLL := Lib.hid hLl
      have HM8 := Lib.hid hM8
      have HW8 := Lib.hid hW8
      have HSB := Lib.hid hsb
      have HS0 := Lib.hid (And.intro hs0 (And.intro hrb8 hmb8))
      have x1 : W8.cell? ⟨rb, 1, none⟩ = some (.pointer (some ⟨qb, 0, none⟩)) := hI8.rig.cells.2.1
      clear hsm hL7 hq7 hx7 hn7 hd7 ht7 hI7 hRz hla hnd hlal hL hrel hzero hkeys hperm hLl hmd hn2 hmn hW8 hsb hc8 hM8 hI8 hrb8 hmb8 hso hs0 hqa
      go_upto_region 29 with fail
      rw [← HW8.out, ← HSB.out]
      go_wp2_with fail
      refine HQA.out.mono ?_
      rintro e w9 ⟨v9, l, rfl, hpl, _, ho9, hb9⟩
      obtain ⟨va, vc, rfl, hcell⟩ := qrow_form ho9
      obtain ⟨nl, hnl⟩ : ∃ nl, nl = l.length := ⟨_, rfl⟩
      rw [← hnl]
      have hc9 : Chg (fun _ => False) W8 w9 := Chg.of_below hb9
      have hF : (qF L l).Perm la := (qF_perm HP.out.2.2.1 hpl).trans HP.out.1
      have hFn : (qF L l).Nodup := hF.nodup_iff.2 HP.out.2.1
      have HF9 := Lib.hid (And.intro hF hFn)
      have HOI : Hid (∀ W, Chg (fun q => q = sb) w9 W → OnI w2 W ⟨db, tb, qb, xb⟩ z7 ((RS za).flatMap mdL) rb mb k la []) := Lib.hid (fun W hc => HQS.out W _ ((hc9.wide (fun _ _ x => x.elim)).trans hc (fun _ _ x => x)) (fun q hx => Nat.le_of_eq hx.symm))
      have HM9 : Hid (MapK nK boolEl w9 sb (onesM [])) := Lib.hid (HM8.out.heap (hc9.block _ HM8.out.lt (fun x => x)))
      have hsb9 : sb < w9.heap.size := HM9.out.lt
      have hsb8 := HM8.out.lt
      have HCE := Lib.hid hcell
      have HNL := Lib.hid hnl
      have hnl60 : nl ≤ 60 := by have e1 := hpl.length_eq; have e2 := HLL.out; rw [List.length_map] at e1; omega
      clear hcell hnl hc9 hF hFn ho9 hb9 hpl x1 x3
      go_wp2_with fail
      go_loopw [111] (fun i wr => ∃ i' : Nat, i' ≤ nl ∧ i = .int .i64 (i' : Int) ∧ Hid (Chg (fun q => q = sb) w9 wr ∧ MapK nK boolEl wr sb (onesM (qF L (l.take i'))))) (fun i _ => nl - (intOf i).toNat)
      case atStart => exact ⟨0, Nat.zero_le _, rfl, Lib.hid ⟨Chg.refl _ _, by rw [List.take_zero]; exact HM9.out⟩⟩
      case round =>
        obtain ⟨i', hi', rfl, HR⟩ := hrel
        by_cases hil : i' < nl
        · as_aux_lemma =>
          obtain ⟨kk, hkk⟩ : ∃ kk, l[i']? = some kk := ⟨_, List.getElem?_eq_getElem (by rw [← HNL.out]; exact hil)⟩
          have hcl : ∀ j u, j < 4 → (aenc L kk)[j]? = some u → ∃ g, va = some ⟨g, 0, none⟩ ∧ wr.cell? ⟨g, i' * 4 + j, none⟩ = some u := fun j u hj hu => by
            have e := dflat_get (enc := aenc L) (k := 4) (fun _ => rfl) l i' j hj
            rw [hkk] at e
            obtain ⟨g, h1, h2, h3, h4⟩ := HCE.out _ u (e.trans hu)
            exact ⟨g, h1, HR.out.1.cell h4 (show ¬ g = sb by omega)⟩
          obtain ⟨kt, hkt⟩ : ∃ x, x = kk.1.1 := ⟨_, rfl⟩
          obtain ⟨kz, hkz⟩ : ∃ x, x = kk.1.2 := ⟨_, rfl⟩
          obtain ⟨ne, hne⟩ : ∃ x, x = (esI L kk).length := ⟨_, rfl⟩
          have hne2 : (lnD L kk).es.length = ne := by rw [hne]; unfold esI; rw [List.length_map]
          have hz1 := (HP.out.2.2.2 kk).1
          have hz2 := (HP.out.2.2.2 kk).2
          obtain ⟨g, hva, f0⟩ := hcl 0 (.string kt) (by decide) (by rw [hkt]; rfl)
          subst hva
          have hin : ∀ {g' : Nat}, (some (⟨g, 0, none⟩ : Addr)) = some ⟨g', 0, none⟩ → g' = g := fun h => by injection h with h; injection h with h _ _; exact h.symm
          have f1 : wr.cell? ⟨g, i' * 4 + 1, none⟩ = some (.int .i64 kz) := by
            obtain ⟨g', h1, h2⟩ := hcl 1 (.int .i64 kz) (by decide) (by rw [hkz]; rfl)
            rwa [hin h1] at h2
          have f2 : wr.cell? ⟨g, i' * 4 + 1 + 1, none⟩ = some (.int .i64 0) := by
            obtain ⟨g', h1, h2⟩ := hcl 2 (.int .i64 ((lnD L kk).least : Int)) (by decide) rfl
            rw [hin h1, hz2] at h2
            exact h2
          have f3 : wr.cell? ⟨g, i' * 4 + 1 + 1 + 1, none⟩ = some (.int .i64 (ne : Int)) := by
            obtain ⟨g', h1, h2⟩ := hcl 3 (.int .i64 (((lnD L kk).base + (lnD L kk).es.length : Nat) : Int)) (by decide) rfl
            rw [hin h1, hz1, Nat.zero_add, hne2] at h2
            exact h2
          rw [Nat.add_zero] at f0
          have hsp := qF_split (L := L) hkk
          have hnel : ne ≤ 60 := by
            have e1 := HF9.out.1.length_eq
            have e2 := congrArg List.length hsp
            have e3 := HLE.out.2.2
            rw [List.length_append, List.length_append] at e2
            omega
          obtain ⟨ub, hub⟩ : ∃ q, q = wr.heap.size := ⟨_, rfl⟩
          obtain ⟨W1, hW1⟩ : ∃ W, W = wr.alloc (.cells #[.string kt, .int .i64 kz, .int .i64 0, .int .i64 (ne : Int)] 52) := ⟨_, rfl⟩
          have hc1 : Chg (fun _ => False) wr W1 := hW1 ▸ Chg.alloc _ (Chg.refl _ _) _
          have hbu : W1.heap[ub]? = some (.cells #[.string kt, .int .i64 kz, .int .i64 0, .int .i64 (ne : Int)] 52 (0, 0)) := by rw [hW1, hub]; exact heap_alloc_new wr _
          have hus : ub ≠ sb := by have := HR.out.2.lt; omega
          have HCA : Hid (Chg (fun q => q = sb) w9 W1) := Lib.hid (HR.out.1.trans hc1 (fun _ _ x => x.elim))
          have HMA : Hid (MapK nK boolEl W1 sb (onesM (qF L (l.take i') ++ (esI L kk).take 0))) := Lib.hid (by rw [List.take_zero, List.append_nil]; exact HR.out.2.heap (hc1.block _ HR.out.2.lt (fun x => x)))
          have u2 : W1.cell? ⟨ub, 2, none⟩ = some (.int .i64 0) := by simp [World.cell?, hbu]
          have HIL := Lib.hid hil
          have HKK := Lib.hid (And.intro hkk (And.intro hkt (And.intro hkz (And.intro hne (And.intro hz1 hz2)))))
          have HBU := Lib.hid hbu
          have HUS := Lib.hid hus
          have HW1 := Lib.hid hW1
          have HUB := Lib.hid hub
          clear hkk hcl hkt hkz hne hne2 hz1 hz2 hin hsp hub hW1 hc1 hbu hus
          go_upto_region 32 with fail
          rw [← HW1.out, ← HUB.out]
          clear f0 f1 f2 f3
          go_wp2_with fail
          go_loopw [20] (fun p wi => ∃ p' : Nat, p' ≤ ne ∧ p = .int .i64 (p' : Int) ∧ Hid (Chg (fun q => q = sb) W1 wi ∧ MapK nK boolEl wi sb (onesM (qF L (l.take i') ++ (esI L kk).take p')))) (fun p _ => ne - (intOf p).toNat)
          case atStart => exact ⟨0, Nat.zero_le _, rfl, Lib.hid ⟨Chg.refl _ _, HMA.out⟩⟩
          case round =>
            obtain ⟨p', hp', rfl, HQ⟩ := hrel
            have hcw := HCA.out.trans HQ.out.1 (fun _ _ x => x)
            have hoi := HOI.out wr hcw
            by_cases hpl : p' < ne
            · as_aux_lemma =>
              obtain ⟨x, hx⟩ : ∃ x, (esI L kk)[p']? = some x := ⟨_, List.getElem?_eq_getElem (by rw [← HKK.out.2.2.2.1]; exact hpl)⟩
              obtain ⟨pm, hpm, hpa⟩ : ∃ pm, (lnD L kk).es[p']? = some pm ∧ pm.a = x := by
                unfold esI at hx
                rw [List.getElem?_map] at hx
                exact Option.map_eq_some_iff.1 hx
              obtain ⟨hnew, hinF⟩ := qF_new HF9.out.2 HKK.out.1 hx
              have hxla : x ∈ la := HF9.out.1.mem_iff.1 hinF
              obtain ⟨hx0, hx1⟩ := HSM.out x hxla
              have hat := qat_ok hoi.lw.a.i.qx.q HLE.out.2.1 kk p' p' pm (by rw [← HLE.out.1, HKK.out.2.2.2.2.1, Nat.zero_add]) (by rw [← HLE.out.1]; exact hpm) (by rw [← HLE.out.1, HKK.out.2.2.2.2.2]; exact Nat.zero_le _)
              rw [← HKK.out.2.1, ← HKK.out.2.2.1] at hat
              have HAT := Lib.hid hat
              have hbw := HQ.out.1.heap HBU.out HUS.out
              have b0 : wr.cell? ⟨ub, 0, none⟩ = some (.string kt) := by simp [World.cell?, hbw]
              have b1 : wr.cell? ⟨ub, 1, none⟩ = some (.int .i64 kz) := by simp [World.cell?, hbw]
              have b3 : wr.cell? ⟨ub, 3, none⟩ = some (.int .i64 (ne : Int)) := by simp [World.cell?, hbw]
              have x1 : wr.cell? ⟨rb, 1, none⟩ = some (.pointer (some ⟨qb, 0, none⟩)) := hoi.rig.cells.2.1
              have htk : (esI L kk).take (p' + 1) = (esI L kk).take p' ++ [x] := by rw [List.take_add_one, hx]; rfl
              obtain ⟨pa, pb, pc, pd⟩ := pm
              dsimp only at hpa
              subst hpa
              have HNW := Lib.hid (And.intro hnew (And.intro hxla htk))
              have hml : (onesM (qF L (l.take i') ++ (esI L kk).take p')).length < maxLen := by
                have e1 := HF9.out.1.length_eq
                have e2 := congrArg List.length (qF_split (L := L) HKK.out.1)
                have e3 := HLE.out.2.2
                rw [List.length_append, List.length_append] at e2
                unfold onesM maxLen
                rw [List.length_map, List.length_append, List.length_take]
                omega
              have HOW := Lib.hid (And.intro hcw hoi)
              clear hcw hoi hx hpm hnew hinF hxla hat hbw htk
              go_wp2_with fail
              refine HAT.out.mono ?_
              rintro e w10 ⟨rfl, hb10⟩
              unfold PlM.val
              dsimp only
              obtain ⟨zb, hzb⟩ : ∃ q, q = w10.heap.size := ⟨_, rfl⟩
              obtain ⟨W11, hW11⟩ : ∃ W, W = w10.alloc (.cells #[.int .i64 pa, .int .i64 pb, .int .i64 pc, .int .i64 pd] 54) := ⟨_, rfl⟩
              have hc11 : Chg (fun _ => False) wr W11 := (Chg.of_below hb10 : Chg (fun _ => False) wr w10).trans (hW11 ▸ Chg.alloc _ (Chg.refl _ _) _) (fun _ _ x => x)
              have g0 : W11.cell? ⟨zb, 0, none⟩ = some (.int .i64 pa) := by rw [hW11, hzb]; simp
              have hM11 := HQ.out.2.heap (hc11.block _ HQ.out.2.lt (fun x => x))
              have hO11 := HOW.out.2.new hc11
              have hlk := hM11.look (t := 43) (e := 4) Tryz.underlying43 (bool_zero _) pa (wf_small hx0 hx1) false
              rw [ones_get HNW.out.1] at hlk
              have hlk : (Instr.lookup 43 (.map (some sb)) (.int .i64 pa) false).run Tryz.prog W11 = .ok (.bool false) W11 := hlk
              have hlk2 := hO11.mp.look (t := 43) (e := 4) Tryz.underlying43 (bool_zero _) pa (wf_small hx0 hx1) false
              rw [ones_in hO11.mp.nodup HNW.out.2.1] at hlk2
              have hlk2 : (Instr.lookup 43 (.map (some mb)) (.int .i64 pa) false).run Tryz.prog W11 = .ok (.bool true) W11 := hlk2
              have hwf := wf_small hx0 hx1
              have HM11 := Lib.hid hM11
              have HC11 : Hid (Chg (fun q => q = sb) W1 W11) := Lib.hid (HQ.out.1.trans hc11 (fun _ _ x => x.elim))
              have HW11 := Lib.hid hW11
              have HZB := Lib.hid hzb
              clear hb10 hW11 hzb hc11 hM11 hO11 b0 b1 b3 x1
              go_upto_region 36 with fail
              rw [← HW11.out, ← HZB.out]
              go_wp2_with (with_reducible refine wpList_store_ib rfl (.tmp 149) (.tmp 151) (.const (.bool true)) rfl sb (onesM (qF L (l.take i') ++ (esI L kk).take p')) pa true rfl rfl rfl HM11.out hwf hml ?c2)
              case c2 =>
                intro w12 hm12 hg12 hs12
                have hch : Chg (fun q => q = sb) W11 w12 := Chg.of_grown hg12 (fun x hx _ => (Option.some.inj hx).symm)
                rw [ones_put HNW.out.1, List.append_assoc, ← HNW.out.2.2] at hm12
                have HX12 : Hid (Chg (fun q => q = sb) W1 w12 ∧ MapK nK boolEl w12 sb (onesM (qF L (l.take i') ++ (esI L kk).take (p' + 1)))) := Lib.hid ⟨HC11.out.trans hch (fun _ _ x => x), hm12⟩
                clear hm12 hg12 hs12 hch hlk hlk2 g0 hwf hml
                go_wp2_with fail
                exact ⟨⟨p' + 1, by omega, by go_num, HX12⟩, by simp [intOf]; omega⟩
            · as_aux_lemma =>
              have hpe : p' = ne := by omega
              subst hpe
              have hbw := HQ.out.1.heap HBU.out HUS.out
              have b3 : wr.cell? ⟨ub, 3, none⟩ = some (.int .i64 (p' : Int)) := by simp [World.cell?, hbw]
              have hm := HQ.out.2
              rw [HKK.out.2.2.2.1, List.take_length, ← qF_take HKK.out.1] at hm
              have HX12 : Hid (Chg (fun q => q = sb) w9 wr ∧ MapK nK boolEl wr sb (onesM (qF L (l.take (i' + 1))))) := Lib.hid ⟨hcw, hm⟩
              have hil := HIL.out
              clear hcw hoi hbw hm
              go_wp2_with fail
              exact ⟨⟨i' + 1, by omega, by go_num, HX12⟩, by simp [intOf]; omega⟩
        · have hie : i' = nl := by omega
          have hoi := HOI.out wr HR.out.1
          have hm := HR.out.2
          rw [hie, HNL.out, List.take_length] at hm
          obtain ⟨ln, hln⟩ : ∃ q, q = la.length := ⟨_, rfl⟩
          have hl1 := hm.len (t := 43) (e := 4) Tryz.underlying43 3
          rw [show (onesM (qF L l)).length = ln from by unfold onesM; rw [List.length_map, HF9.out.1.length_eq, hln]] at hl1
          have hl2 := hoi.mp.len (t := 43) (e := 4) Tryz.underlying43 3
          rw [show (onesM la).length = ln from by unfold onesM; rw [List.length_map, hln]] at hl2
          have HE : Hid (Below w.heap.size w wr) := Lib.hid (chg_below (HC2.out.trans hoi.lw.chg (fun _ _ x => x)))
          clear hoi hm hln
          go_wp2_with fail
          go_ret
          exact ⟨rfl, HE.out⟩
end Go.Proofs.YtdnhgodfmjapmaaGreatDoor
