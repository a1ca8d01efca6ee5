/- A part. -/
import Derived.Test.YtdnhgodfmjapmaaGreatDoorDke21
import Derived.Test.YtdnhgodfmjapmaaGreatDoorDke37
import Derived.Test.YtdnhgodfmjapmaaGreatDoorDke50
import Derived.Test.YtdnhgodfmjapmaaGreatDoorDke54
set_option linter.unusedVariables false
set_option linter.unusedSimpArgs false
namespace Go.Proofs.YtdnhgodfmjapmaaGreatDoor
open Go.RowKit Go.Deep
theorem chg_below {w w' : World} (h : Chg (fun _ => False) w w') : Below w.heap.size w w' := h.below (fun _ _ e => e.elim) (Nat.le_refl _)
theorem below_chg {w w' : World} (h : Below w.heap.size w w') : Chg (fun _ => False) w w' := Chg.of_below h
theorem Fine.sound {m : MsgM} (h : Fine m) : Sound m := ⟨by have := h.topic; unfold maxLen; omega, by have := h.tag; unfold maxLen; omega, by have := h.body; omega, by have := h.many; omega, fun t ht => by have := h.keys t ht; unfold maxLen; omega⟩
theorem Sized.below {w w' : World} {p : MsgM × Value} (h : Sized w p) (hb : Below w.heap.size w w') : Sized w' p := ⟨h.strs.below hb (Nat.le_refl _), h.body, h.topic, h.tag, h.many, h.keys⟩
def mdN (z : DspG) : List Int := ((RS z).flatMap mdL).map fun r => (r.id : Int)
theorem RigI.chg {S : Nat → Prop} {w w' : World} {rb : Nat} {B : DspB} {z : DspG} (h : RigI w rb B z) (hc : Chg S w w') (hn : ¬ S rb) : RigI w' rb B z := ⟨hc.heap h.at_ hn, Nat.lt_of_lt_of_le h.out.1 hc.size, h.out.2⟩
variable {w0 w w' : World} {B : DspB} {z z' : DspG} {D D' : List RcM} {rb mb k k' : Nat} {l p p' : List Int}
theorem mdN_snoc {r : RcM} (h : RS z' = RS z ++ [r]) : mdN z' = mdN z ++ (mdL r).map (fun r => (r.id : Int)) := by
  unfold mdN
  rw [h, List.flatMap_append, List.map_append]
  simp
theorem mdN_len (z : DspG) : (mdN z).length ≤ (RS z).length := by
  unfold mdN
  rw [List.length_map]
  exact mdL_flat _
theorem qrow_form {w : World} {b : Nat} {t : TypeId} {k n : Nat} {v : Value} {xs : List Value} (h : w.ownsRow b t k v n xs) : ∃ a cap, v = .slice a n cap ∧ ∀ j u, xs[j]? = some u → ∃ g, a = some ⟨g, 0, none⟩ ∧ b ≤ g ∧ g < w.heap.size ∧ w.cell? ⟨g, j, none⟩ = some u := by
  have hc := fun (g : Nat) (hg : v.ownBlock = some g) => World.ownsRow.cells h (g := g) hg
  have h1 := h.1
  rcases h.2 with ⟨rfl, h0⟩ | ⟨g, cap, cur, rfl, hbase, hb, _⟩
  · refine ⟨none, 0, by rw [h0], fun j u hu => ?_⟩
    have : xs = [] := by
      apply List.eq_nil_of_length_eq_zero
      rw [h1, h0, Nat.zero_mul]
    rw [this] at hu
    cases hu
  · refine ⟨_, cap, rfl, fun j u hu => ⟨g, rfl, hbase, (Array.getElem?_eq_some_iff.1 hb).1, ?_⟩⟩
    have := hc g rfl j u hu
    have e : (⟨g, 0, none⟩ : Addr).add j = ⟨g, j, none⟩ := by unfold Addr.add; split <;> simp_all
    rw [e] at this
    exact this
def ienK (n : Int) : List Value := [.int .i64 n]
theorem info_k64 : (Tryz.prog.info? 3).map (fun i => (i.zero, i.size, i.bytes)) = some (some (.int .i64 0), 1, 8) := by kernel_rfl
theorem layK : LayE 3 58 1 ienK where
  under := Tryz.underlying58
  info := by
    have h := info_k64
    cases hi : Tryz.prog.info? 3 with
    | none => rw [hi] at h; cases h
    | some i =>
      rw [hi] at h
      simp only [Option.map_some, Option.some.injEq, Prod.mk.injEq] at h
      exact ⟨i, _, rfl, h.1, h.2.1, rfl, by omega⟩
  len := fun _ => rfl
  one := fun x u hu => by
    simp [ienK] at hu
    subst hu
    rfl
  pos := by decide
def keyN (D : List RcM) : Nat := (D.map fun r => r.m.keys.length).sum
theorem keyN_snoc (D : List RcM) (r : RcM) : keyN (D ++ [r]) = keyN D + r.m.keys.length := by
  unfold keyN
  rw [List.map_append, List.sum_append]
  simp
theorem keD_keyN (D : List RcM) : (keD D).length = keyN D := by
  have h := keD_length D
  have : manyD D = keyN D + D.length := by
    unfold manyD keyN
    clear h
    induction D with
    | nil => rfl
    | cons r D ih =>
      rw [List.map_cons, List.map_cons, List.sum_cons, List.sum_cons, List.length_cons, ih]
      omega
  omega
theorem keyN_le {D : List RcM} (h : ∀ r ∈ D, MdOk r.m) : keyN D ≤ 3 * D.length := by
  have := manyD_le h
  have := keD_length D
  have := keD_keyN D
  omega
variable {w0 w w' : World} {B : DspB} {z z' : DspG} {D D' : List RcM} {rb k k' : Nat} {v v' : Value} {I : List Int}
structure KyP (w0 w : World) (B : DspB) (z : DspG) (D : List RcM) (rb k : Nat) (v : Value) (I p : List Int) : Prop where
  lw : LwD w0 w B z D k
  rig : RigI w rb B z
  row : GRow 3 1 ienK w v I
  out : ∀ g, v.ownBlock = some g → OutD w B z g ∧ g ≠ rb ∧ w0.heap.size ≤ g
  eq : mdN z = I ++ p
variable {p p' : List Int}
theorem KyP.qt (h : KyP w0 w B z D rb k v I p) (hl : LwD w0 w' B z' D' k') (hq : QTo w (z.own B) w' (z'.own B)) (he : mdN z' = I ++ p') : KyP w0 w' B z' D' rb k' v I p' :=
  ⟨hl, h.rig.qt hq, h.row.chg hq.chg (fun g hg hx => (h.out g hg).1.2 hx), fun g hg => ⟨((h.out g hg).1.to hq).1, (h.out g hg).2⟩, he⟩
theorem KyP.new (h : KyP w0 w B z D rb k v I p) (hc : Chg (fun _ => False) w w') : KyP w0 w' B z D rb k v I p := h.qt (h.lw.new hc) (QTo.of_new hc) h.eq
theorem KyP.more (h : KyP w0 w B z D rb k v I p) (hk : k ≤ k') : KyP w0 w B z D rb k' v I p := { h with lw := h.lw.more hk }
theorem KyP.len (h : KyP w0 w B z D rb k v I p) (hk : k ≤ 61) : I.length ≤ 61 := by
  have e1 := congrArg List.length h.eq
  have e2 := mdN_len z
  have e3 := h.lw.rl
  rw [List.length_append] at e1
  omega
theorem KyP.app {x : Int} (h : KyP w0 w B z D rb k v I [x]) (hk : k ≤ 61) : ∃ W, W = w.alloc (.cells #[.int .i64 x] 3) ∧ ∃ v' w', (Builtin.append_ #[58, 58] 58 #[v, .slice (some ⟨w.heap.size, 0, none⟩) 1 1]).run Tryz.prog W = .ok v' w' ∧ KyP w0 w' B z D rb k v' (I ++ [x]) [] := by
  refine ⟨_, rfl, ?_⟩
  obtain ⟨W, hW⟩ : ∃ W, W = w.alloc (.cells #[.int .i64 x] 3) := ⟨_, rfl⟩
  rw [← hW]
  have hc : Chg (fun _ => False) w W := hW ▸ Chg.alloc _ (Chg.refl _ _) _
  have h1 := h.new hc
  have hcell : ∀ j u, (ienK x)[j]? = some u → W.cell? ⟨w.heap.size, j, none⟩ = some u := fun j u hu => by
    match j with
    | 0 => simp [ienK] at hu; subst hu; rw [hW]; simp
    | j + 1 => simp [ienK] at hu
  obtain ⟨v', w5, hrun, hA⟩ := gapp_g layK (w := W) x (q := w.heap.size) (c := 1) h1.row (by have := h.len hk; omega) hcell 58
  have hg := Chg.of_grown (S := fun q => some q = v.ownBlock) hA.grown (fun q hq _ => hq.symm)
  have hs := hg.size
  refine ⟨v', w5, hrun, ⟨h1.lw.away hg (fun q hq e => (h1.out q e.symm).1.2 hq) (fun q e => (h1.out q e.symm).2.2), h1.rig.chg hg (fun e => (h1.out rb e.symm).2.1 rfl), hA.row, fun g hg2 => ?_, by rw [List.append_nil]; exact h1.eq⟩⟩
  rcases hA.own with e | e
  · rw [e] at hg2
    obtain ⟨o1, o2, o3⟩ := h1.out g hg2
    exact ⟨⟨Nat.lt_of_lt_of_le o1.1 hs, o1.2⟩, o2, o3⟩
  · rw [e] at hg2
    injection hg2 with hg2
    have hlt := hA.row.lt g (by rw [e, hg2])
    refine ⟨⟨hlt, fun hx => ?_⟩, fun hx => ?_, ?_⟩
    · have := h1.lw.a.i.lt g hx
      omega
    · have := h1.rig.out.1
      omega
    · have := h1.lw.chg.size
      omega
def AppKyTo (w0 w : World) (B : DspB) (z : DspG) (D : List RcM) (rb k : Nat) (v : Value) (I : List Int) (M : MsgM) (e : Ending) (w' : World) : Prop :=
  (∃ er : Int, er ≠ 0 ∧ e = .returned (.tuple #[.int .i64 0, .int .i64 er]) ∧ KyP w0 w' B z D rb (k + 1) v I [] ∧ Below w.heap.size w w') ∨
  (∃ id len z', e = .returned (.tuple #[.int .i64 ((id : Nat) : Int), .int .i64 0]) ∧ KyP w0 w' B z' D rb (k + 1) v I (if isMD M then [((id : Nat) : Int)] else []) ∧ QTo w (z.own B) w' (z'.own B) ∧ id ≤ 1000000 ∧ RS z' = RS z ++ [⟨id, len, M⟩])
theorem KyP.append (h : KyP w0 w B z D rb k v I []) (hk : k ≤ 60) (M : MsgM) (vk : Value) (hks : Strs w 0 vk M.keys) (hcap : CapOk vk) (hs : Sound M) :
    Calls Tryz.prog 14 #[.pointer (some ⟨B.tb, 0, none⟩), M.val vk] w (AppKyTo w0 w B z D rb k v I M) := by
  refine (h.lw.append (by omega) M vk hks hcap hs).mono ?_
  rintro e w' (⟨er, q1, _, rfl, hb⟩ | ⟨id, len, z2, rfl, hL2, hq2, a1, a2, a3, a4, a5, a6, a7⟩)
  · exact .inl ⟨er, q1, rfl, (h.new (below_chg hb)).more (by omega), hb⟩
  · have he := h.eq
    rw [List.append_nil] at he
    refine .inr ⟨id, len, z2, rfl, h.qt hL2 hq2 ?_, hq2, by omega, a1⟩
    rw [mdN_snoc a1, he]
    congr 1
    unfold mdL
    split <;> rfl
def kallL (h : Nat) (R : List KE) : List Int := (R.filter fun k => decide (k.h = h)).map fun k => (k.at_ : Int)
theorem kallL_cons (h : Nat) (k : KE) (r : List KE) : kallL h (k :: r) = if k.h = h then (k.at_ : Int) :: kallL h r else kallL h r := by
  unfold kallL
  rw [List.filter_cons]
  by_cases hk : k.h = h
  · rw [if_pos (decide_eq_true hk), if_pos hk]; rfl
  · rw [if_neg (by simpa using hk), if_neg hk]
theorem kalong_all (h : Nat) (most : Nat) : ∀ (R : List KE) (a : List Int), a.length ≤ most → alongF (findStp h 0 most) (h % 8) R a = a ++ (kallL h R).take (most - a.length)
  | [], a, _ => by rw [alongF]; simp [kallL]
  | k :: r, a, ha => by
    rw [alongF, kallL_cons]
    by_cases hb : k.h % 8 = h % 8
    · rw [if_pos hb]
      by_cases hf : a.length = most
      · have e : findStp h 0 most (r.length + 1) k a = (false, a) := by unfold findStp; rw [if_pos (.inl (by omega))]
        rw [e, hf]
        simp
      · have e : findStp h 0 most (r.length + 1) k a = (true, if k.h = h then a ++ [(k.at_ : Int)] else a) := by unfold findStp; rw [if_neg (by omega)]
        rw [e]
        dsimp only
        rw [if_pos rfl]
        by_cases hk : k.h = h
        · rw [if_pos hk, if_pos hk, kalong_all h most r _ (by rw [List.length_append]; simp only [List.length_cons, List.length_nil]; omega), List.length_append, List.append_assoc]
          obtain ⟨d, hd⟩ : ∃ d, most - a.length = d + 1 := ⟨most - a.length - 1, by omega⟩
          rw [hd, show most - (a.length + [(k.at_ : Int)].length) = d by simp only [List.length_cons, List.length_nil]; omega, List.take_succ_cons]
          rfl
        · rw [if_neg hk, if_neg hk]
          exact kalong_all h most r a ha
    · have hk : ¬ k.h = h := fun hx => hb (by rw [hx])
      rw [if_neg hb, if_neg hk]
      exact kalong_all h most r a ha
theorem find_has {D : List RcM} {r : RcM} (hr : r ∈ D) {key : ByteArray} (hk : key ∈ r.m.keys) (hl : (keD D).length ≤ 1000) : (r.id : Int) ∈ findL (numK r.m.topic key) 0 1000 (keD D) ∧ (findL (numK r.m.topic key) 0 1000 (keD D)).length ≤ 1000 := by
  have e : findL (numK r.m.topic key) 0 1000 (keD D) = (kallL (numK r.m.topic key) (keD D)).take 1000 := by
    unfold findL
    have := kalong_all (numK r.m.topic key) 1000 (keD D) [] (Nat.zero_le _)
    rw [show (1000 : Int) = ((1000 : Nat) : Int) from rfl, this]
    simp
  have hlen : (kallL (numK r.m.topic key) (keD D)).length ≤ 1000 := by
    unfold kallL
    rw [List.length_map]
    exact Nat.le_trans (List.length_filter_le _ _) hl
  rw [e, List.take_of_length_le hlen]
  refine ⟨List.mem_map.2 ⟨⟨numK r.m.topic key, r.id, r.m.born.toNat⟩, List.mem_filter.2 ⟨?_, by simp⟩, rfl⟩, hlen⟩
  unfold keD
  rw [List.mem_reverse]
  exact List.mem_flatMap.2 ⟨r, hr, List.mem_map.2 ⟨key, hk, rfl⟩⟩
set_option maxHeartbeats 2000000 in
set_option maxRecDepth 100000 in
theorem dcontains_any {w : World} {b : Nat} {v : Value} {F : List Int} (h : w.ownsRow b 3 1 v F.length (F.map (Value.int .i64))) (hl : F.length ≤ 1000) (x : Int) (hx : x ∈ F) (q : Nat) (hq : w.cell? ⟨q, 0, none⟩ = some (.int .i64 x)) :
    Calls Tryz.prog 21 #[v, .slice (some ⟨q, 0, none⟩) 1 1] w fun e w' => e = .returned (.bool true) ∧ Chg (fun _ => False) w w' := by
  obtain ⟨a, cap, rfl, hcell⟩ := qrow_form h
  obtain ⟨n, hn⟩ : ∃ n, n = F.length := ⟨_, rfl⟩
  have HC : Hid (∀ k y, F[k]? = some y → ∃ g, a = some ⟨g, 0, none⟩ ∧ w.cell? ⟨g, k, none⟩ = some (.int .i64 y)) := Lib.hid (fun k y hy => by
    obtain ⟨g, h1, _, _, h4⟩ := hcell k (.int .i64 y) (by rw [List.getElem?_map, hy]; rfl)
    exact ⟨g, h1, h4⟩)
  have HX := Lib.hid hx
  have HN := Lib.hid hn
  rw [← hn] at hl ⊢
  clear hcell h hx hn
  go_enter Tryz.func21, Tryz.ntmps21
  go_wp2_with fail
  go_loopw [5, 10] (fun s i wr => ∃ k : Nat, k ≤ n ∧ i = .int .i64 (k : Int) ∧ ((s = .int .i64 0 ∧ Hid (x ∉ F.take k)) ∨ (s = .int .i64 1 ∧ Hid True)) ∧ wr = w) (fun _ i _ => n - (intOf i).toNat)
  case atStart => exact ⟨0, Nat.zero_le _, rfl, .inl ⟨rfl, Lib.hid (by simp)⟩, rfl⟩
  case round =>
    obtain ⟨k, hk, rfl, hs, rfl⟩ := hrel
    by_cases hlt : k < n
    · obtain ⟨y, hy⟩ : ∃ y, F[k]? = some y := ⟨_, List.getElem?_eq_getElem (by rw [← HN.out]; exact hlt)⟩
      obtain ⟨g, rfl, f0⟩ := HC.out k y hy
      have htk : F.take (k + 1) = F.take k ++ [y] := by rw [List.take_add_one, hy]; rfl
      rcases hs with ⟨rfl, HNO⟩ | ⟨rfl, _⟩
      · by_cases hxy : x = y
        · subst hxy
          clear hy htk
          go_wp2_with fail
          exact ⟨⟨k + 1, by omega, by go_num, .inr ⟨rfl, Lib.hid trivial⟩, trivial⟩, by simp [intOf]; omega⟩
        · have HN2 : Hid (x ∉ F.take (k + 1)) := Lib.hid (by rw [htk]; simpa using ⟨HNO.out, hxy⟩)
          have hxy2 : (x == y) = false := by simpa using hxy
          clear hy htk
          go_wp2_with fail
          exact ⟨⟨k + 1, by omega, by go_num, .inl ⟨rfl, HN2⟩, trivial⟩, by simp [intOf]; omega⟩
      · clear hy htk
        go_wp2_with fail
        exact ⟨⟨k + 1, by omega, by go_num, .inr ⟨rfl, Lib.hid trivial⟩, trivial⟩, by simp [intOf]; omega⟩
    · have hkn : k = n := by omega
      rcases hs with ⟨rfl, HNO⟩ | ⟨rfl, _⟩
      · exfalso
        refine HNO.out ?_
        rw [hkn, HN.out, List.take_length]
        exact HX.out
      · go_wp2_with fail
        go_ret
        exact ⟨rfl, Chg.refl _ _⟩
set_option maxHeartbeats 4000000 in
set_option maxRecDepth 100000 in
theorem walkF_DispKeys (v : Value) (ms : List (MsgM × Value)) (w : World) (ht : Tab10 w) (hv : MsgsAt w v ms) (hl : ms.length ≤ maxLen) (hs : ∀ p ∈ ms, Sized w p ∧ CapOk p.2) :
    Calls Tryz.prog 5 #[v] w fun e w' => e = .returned (.bool true) ∧ Below w.heap.size w w' := by
  unfold maxLen at hl
  have HTB := Lib.hid ht
  have HV := Lib.hid hv
  have HS := Lib.hid hs
  obtain ⟨a, cap, rfl⟩ := hv.form
  obtain ⟨n, hn⟩ : ∃ n, n = ms.length := ⟨_, rfl⟩
  have HN := Lib.hid hn
  rw [← hn] at HV hl ⊢
  clear ht hv hs hn
  go_enter Tryz.func5, Tryz.ntmps5
  go_wp2_with fail
  refine (dawake_any w HTB.out).mono ?_
  rintro e w1 ⟨rfl, hc1⟩
  have HC1 := Lib.hid hc1
  clear hc1
  by_cases h60 : 60 < n
  · go_wp2_with fail
    go_ret
    exact ⟨rfl, chg_below HC1.out⟩
  go_wp2_with fail
  refine (great_msgs _ ms w1 (HV.out.keep HC1.out (fun _ _ e => e)) (by rw [← HN.out]; omega) (fun p hp => (HS.out p hp).1.below (chg_below HC1.out))).mono ?_
  rintro e w2 ⟨z, rfl, hf, hb2⟩
  have HC2 := Lib.hid (HC1.out.trans (below_chg hb2) (fun _ _ e => e))
  have HF := Lib.hid hf
  clear hb2 hf
  cases z
  case true =>
    go_wp2_with fail
    go_ret
    exact ⟨rfl, chg_below HC2.out⟩
  have HFA := Lib.hid (HF.out rfl)
  clear HF
  have HM := Lib.hid (dmade_any w2 (tab_chg HTB.out HC2.out))
  go_wp2_with fail
  refine HM.out.mono ?_
  rintro e w3 ⟨B, z, rfl, hA, m1, m2, m3, m4, m5, m6, m7⟩
  have hL0 := LwD.of_made hA m1 m2 m4
  have hRs : RS z = [] := by unfold RS; rw [m1]; rfl
  obtain ⟨W3, hW3⟩ : ∃ W, W = w3.alloc (.cells #[.pointer (some ⟨B.tb, 0, none⟩), .pointer (some ⟨B.qb, 0, none⟩), .pointer (some ⟨B.xb, 0, none⟩), .pointer (some ⟨B.db, 0, none⟩)] 29) := ⟨_, rfl⟩
  have hc3 : Chg (fun _ => False) w3 W3 := hW3 ▸ Chg.alloc _ (Chg.refl _ _) _
  have hR3 : RigI W3 w3.heap.size B z := hW3 ▸ RigI.made hL0.a.i
  obtain ⟨rb, hrb⟩ : ∃ r, r = w3.heap.size := ⟨_, rfl⟩
  rw [← hrb] at hR3
  have hO3 : KyP w2 W3 B z [] rb 0 (.slice none 0 0) [] [] := ⟨hL0.new hc3, hR3, GRow.nil _, (fun g hg => by cases hg), by unfold mdN; rw [hRs]; rfl⟩
  have HO3 : Hid (∃ z D I, KyP w2 W3 B z D rb 0 (.slice none 0 0) I [] ∧ keyN ((RS z).flatMap mdL) = 0) := Lib.hid ⟨z, [], [], hO3, by rw [hRs]; rfl⟩
  have HW3 := Lib.hid hW3
  have HRB := Lib.hid hrb
  obtain ⟨db, tb, qb, xb⟩ := B
  dsimp only at *
  clear hA m1 m2 m3 m4 m5 m6 m7 hL0 hRs hW3 hc3 hR3 hrb hO3
  go_upto_region 11 with fail
  rw [← HW3.out, ← HRB.out]
  go_loopw [5, 6, 38] (fun mv v i wr => ∃ (k mN : Nat), k ≤ n ∧ i = .int .i64 (k : Int) ∧ mv = .int .i64 (mN : Int) ∧ mN ≤ 1000 * k ∧ Hid (∃ z D I, KyP w2 wr ⟨db, tb, qb, xb⟩ z D rb k v I [] ∧ keyN ((RS z).flatMap mdL) = mN)) (fun _ _ i _ => n - (intOf i).toNat)
  case atStart => exact ⟨0, 0, Nat.zero_le _, rfl, rfl, Nat.zero_le _, HO3⟩
  case round =>
    obtain ⟨k, mN, hk, rfl, rfl, hmN, HX⟩ := hrel
    by_cases hlt : k < n
    · as_aux_lemma =>
      obtain ⟨z0, D0, I0, hI, hkn⟩ := HX.out
      have HI := Lib.hid hI
      have HKN := Lib.hid hkn
      clear hI hkn
      obtain ⟨p, hp⟩ : ∃ p, ms[k]? = some p := ⟨_, List.getElem?_eq_getElem (by rw [← HN.out]; exact hlt)⟩
      have hpm := List.mem_of_getElem? hp
      obtain ⟨M, vk⟩ := p
      have hcw : Chg (fun _ => False) w wr := HC2.out.trans HI.out.lw.chg (fun _ _ e => e)
      obtain ⟨a', cap', e', hx⟩ := HV.out.keep hcw (fun _ _ e => e)
      rcases hx with hx | ⟨b, o, rfl, hbl, hcell⟩
      · rw [hx] at hp; cases hp
      have key := hcell k _ hp
      have hsz : Sized wr (M, vk) := (HS.out _ hpm).1.below (chg_below hcw)
      have hcp : CapOk vk := (HS.out _ hpm).2
      have hfn : Fine M := HFA.out _ hpm
      obtain ⟨hea, hec⟩ : a = some ⟨b, o, none⟩ ∧ cap = cap' := by injection e' with e1 e2 e3; exact ⟨e1, e3⟩
      subst hea
      clear e' hec hcell
      obtain ⟨m1, mq, m3, m4, m5, m6, m7, m8, m9, m10⟩ := M
      obtain ⟨ka, kc, hva⟩ := hsz.strs.form
      dsimp only at hva
      obtain ⟨kl, hkl⟩ : ∃ l, l = m10.length := ⟨_, rfl⟩
      rw [← hkl] at hva
      subst hva
      have f0 : wr.cell? ⟨b, o + k * 10, none⟩ = some (.int .i64 m1) := by first | (simp [MsgM.cells]; done) | simpa [MsgM.cells] using key 0 (by decide)
      have f1 : wr.cell? ⟨b, o + k * 10 + 1, none⟩ = some (.int .i64 mq) := by first | (simp [MsgM.cells]; done) | simpa [MsgM.cells] using key 1 (by decide)
      have f2 : wr.cell? ⟨b, o + k * 10 + 1 + 1, none⟩ = some (.int .i64 m3) := by first | (simp [MsgM.cells]; done) | simpa [MsgM.cells] using key 2 (by decide)
      have f3 : wr.cell? ⟨b, o + k * 10 + 1 + 1 + 1, none⟩ = some (.int .i64 m4) := by first | (simp [MsgM.cells]; done) | simpa [MsgM.cells] using key 3 (by decide)
      have f4 : wr.cell? ⟨b, o + k * 10 + 1 + 1 + 1 + 1, none⟩ = some (.int .i64 m5) := by first | (simp [MsgM.cells]; done) | simpa [MsgM.cells] using key 4 (by decide)
      have f5 : wr.cell? ⟨b, o + k * 10 + 1 + 1 + 1 + 1 + 1, none⟩ = some (.int .i64 m6) := by first | (simp [MsgM.cells]; done) | simpa [MsgM.cells] using key 5 (by decide)
      have f6 : wr.cell? ⟨b, o + k * 10 + 1 + 1 + 1 + 1 + 1 + 1, none⟩ = some (.string m7) := by first | (simp [MsgM.cells]; done) | simpa [MsgM.cells] using key 6 (by decide)
      have f7 : wr.cell? ⟨b, o + k * 10 + 1 + 1 + 1 + 1 + 1 + 1 + 1, none⟩ = some (.string m8) := by first | (simp [MsgM.cells]; done) | simpa [MsgM.cells] using key 7 (by decide)
      have f8 : wr.cell? ⟨b, o + k * 10 + 1 + 1 + 1 + 1 + 1 + 1 + 1 + 1, none⟩ = some (.string m9) := by first | (simp [MsgM.cells]; done) | simpa [MsgM.cells] using key 8 (by decide)
      have f9 : wr.cell? ⟨b, o + k * 10 + 1 + 1 + 1 + 1 + 1 + 1 + 1 + 1 + 1, none⟩ = some (.slice ka kl kc) := by first | (simp [MsgM.cells]; done) | simpa [MsgM.cells] using key 9 (by decide)
      obtain ⟨W1, hW1⟩ : ∃ W, W = wr.alloc (.cells #[.int .i64 m1, .int .i64 mq, .int .i64 m3, .int .i64 m4, .int .i64 m5, .int .i64 m6, .string m7, .string m8, .string m9, .slice ka kl kc] 46) := ⟨_, rfl⟩
      have hb1 : Below wr.heap.size wr W1 := hW1 ▸ (Below.refl _ _).alloc (Nat.le_refl _) _
      have hbx : Box W1 wr.heap.size #[.int .i64 m1, .int .i64 mq, .int .i64 m3, .int .i64 m4, .int .i64 m5, .int .i64 m6, .string m7, .string m8, .string m9, .slice ka kl kc] := hW1 ▸ Box.new wr _
      have hI1 := HI.out.new (below_chg hb1)
      have hbo : OutD W1 ⟨db, tb, qb, xb⟩ z0 wr.heap.size := ⟨hbx.lt, fun hx => Nat.lt_irrefl _ (HI.out.lw.a.i.lt _ hx)⟩
      have hap := hI1.append (by omega) ⟨m1, mq, m3, m4, m5, m6, m7, m8, m9, m10⟩ (.slice ka kl kc) (hsz.strs.below hb1 (Nat.le_refl _)) hcp hfn.sound
      have hkl10 : kl ≤ 10 := by rw [hkl]; exact hfn.many
      have k0 := hbx.cell
      have x0 : W1.cell? ⟨rb, 0, none⟩ = some (.pointer (some ⟨tb, 0, none⟩)) := hI1.rig.cells.1
      obtain ⟨bx, hbx'⟩ : ∃ q, q = wr.heap.size := ⟨_, rfl⟩
      rw [← hbx'] at hbx hbo k0
      have HKL := Lib.hid hkl
      have HBX := Lib.hid hbx
      have HBO := Lib.hid hbo
      have HBB := Lib.hid hbx'
      have HAP := Lib.hid hap
      have HW1 := Lib.hid hW1
      clear hp hpm hcw hbl key hsz hcp hfn hW1 hb1 hbx hI1 hbo hap hkl hbx'
      go_upto_region 13 with fail
      rw [← HW1.out, ← HBB.out]
      clear f0 f1 f2 f3 f4 f5 f6 f7 f8 f9
      go_wp2_with fail
      refine HAP.out.mono ?_
      rintro e w5 (⟨er, q1, rfl, hI5, hb5⟩ | ⟨id, len, z5, rfl, hI5, hq5, a6, a7⟩)
      · as_aux_lemma =>
        have k5 := (HBX.out.below hb5 HBX.out.lt).cell
        have HX5 : Hid (∃ z D I, KyP w2 w5 ⟨db, tb, qb, xb⟩ z D rb (k + 1) u6 I [] ∧ keyN ((RS z).flatMap mdL) = mN) := Lib.hid ⟨_, _, _, hI5, HKN.out⟩
        have HQ1 : (er != (0 : Int)) = true := by simpa using q1
        clear hb5 hI5
        go_wp2_with fail
        exact ⟨⟨k + 1, mN, by omega, by go_num, rfl, by omega, HX5⟩, by simp [intOf]; omega⟩
      · have HBX5 : Hid (Box w5 bx _) := Lib.hid ((HBO.out.to hq5).2.trans HBX.out)
        have hkn5 : keyN ((RS z5).flatMap mdL) = mN + (if isMD ⟨m1, mq, m3, m4, m5, m6, m7, m8, m9, m10⟩ then kl else 0) := by
          rw [a7, List.flatMap_append, ← HKN.out]
          simp only [List.flatMap_cons, List.flatMap_nil, List.append_nil]
          unfold mdL
          dsimp only
          split
          · rw [keyN_snoc, HKL.out]
          · rw [List.append_nil, Nat.add_zero]
        clear hq5 a7
        have k5 := HBX5.out.cell
        by_cases e13 : m1 = 1 ∨ m1 = 3
        · as_aux_lemma =>
          have hmd : isMD ⟨m1, mq, m3, m4, m5, m6, m7, m8, m9, m10⟩ = true := by rcases e13 with e | e <;> simp [isMD, e]
          rw [hmd] at hI5 hkn5
          rw [if_pos rfl] at hI5 hkn5
          obtain ⟨W6, rfl, v6, w6, hrun, hK6⟩ := hI5.app (by omega)
          have HX6 : Hid (∃ z D I, KyP w2 w6 ⟨db, tb, qb, xb⟩ z D rb (k + 1) v6 I [] ∧ keyN ((RS z).flatMap mdL) = mN + kl) := Lib.hid ⟨_, _, _, hK6, hkn5⟩
          have HRUN := Lib.hid hrun
          clear hI5 hK6 hkn5 hmd hrun
          rcases e13 with e1 | e3
          · subst e1
            go_wp2_with (at_builtin; refine Lib.wpList_append_run _ rfl _ _ _ _ rfl _ _ rfl rfl _ _ HRUN.out ?_)
            exact ⟨⟨k + 1, mN + kl, by omega, by go_num, by go_num, by omega, HX6⟩, by simp [intOf]; omega⟩
          · subst e3
            go_wp2_with (at_builtin; refine Lib.wpList_append_run _ rfl _ _ _ _ rfl _ _ rfl rfl _ _ HRUN.out ?_)
            exact ⟨⟨k + 1, mN + kl, by omega, by go_num, by go_num, by omega, HX6⟩, by simp [intOf]; omega⟩
        · as_aux_lemma =>
          have e1 : ¬ m1 = 1 := fun h => e13 (.inl h)
          have e3 : ¬ m1 = 3 := fun h => e13 (.inr h)
          have hmd : isMD ⟨m1, mq, m3, m4, m5, m6, m7, m8, m9, m10⟩ = false := by simp [isMD, e1, e3]
          rw [hmd] at hI5 hkn5
          have HX5 : Hid (∃ z D I, KyP w2 w5 ⟨db, tb, qb, xb⟩ z D rb (k + 1) u6 I [] ∧ keyN ((RS z).flatMap mdL) = mN) := Lib.hid ⟨_, _, _, hI5, by simpa using hkn5⟩
          have E1 : (m1 != (1 : Int)) = true := by simpa using e1
          have E3 : (m1 != (3 : Int)) = true := by simpa using e3
          clear hI5 hkn5 hmd e1 e3 e13
          go_wp2_with fail
          exact ⟨⟨k + 1, mN, by omega, by go_num, rfl, by omega, HX5⟩, by simp [intOf]; omega⟩
    · as_aux_lemma =>
      obtain rfl : k = n := by omega
      obtain ⟨za, Da, Ia, hIa, hkna⟩ := HX.out
      have hk60 : k ≤ 60 := by omega
      have HSY := Lib.hid (hIa.lw.sync (by omega))
      have x0 : wr.cell? ⟨rb, 0, none⟩ = some (.pointer (some ⟨tb, 0, none⟩)) := hIa.rig.cells.1
      have HIA := Lib.hid (And.intro hIa hkna)
      clear hIa hkna hlt hk HX
      go_wp2_with fail
      refine HSY.out.mono ?_
      rintro e w5 ⟨rfl, z5, hL5, hq5, b1, b2, b3, b4, b5, b6, _⟩
      have hI5 : KyP w2 w5 ⟨db, tb, qb, xb⟩ z5 Da rb k u6 Ia [] := HIA.out.1.qt hL5 hq5 (by unfold mdN; rw [b1]; exact HIA.out.1.eq)
      have hs5 : ((1024 * z5.x.i0 + (bytesI z5.x.l).length : Nat) : Int) ≤ z5.x.m.synced := by rw [b4, b5, b6]; exact Int.le_refl _
      have HKN : Hid (keyN ((RS z5).flatMap mdL) = mN) := Lib.hid (by rw [b1]; exact HIA.out.2)
      have HAL := Lib.hid (hI5.lw.all_ hs5)
      have x3 : w5.cell? ⟨rb, 3, none⟩ = some (.pointer (some ⟨db, 0, none⟩)) := hI5.rig.cells.2.2.2
      have HI5 := Lib.hid hI5
      clear hL5 hq5 b1 b2 b3 b4 b5 b6 hs5 hI5 x0
      go_wp2_with fail
      refine HAL.out.mono ?_
      rintro e w6 ⟨na, z6, rfl, hL6, hq6, hx6, ht6⟩
      have hRz : RS z6 = RS z5 := by unfold RS; rw [hx6]
      rw [← hRz] at hL6
      have hI6 : KyP w2 w6 ⟨db, tb, qb, xb⟩ z6 ((RS z6).flatMap mdL) rb k u6 Ia [] := HI5.out.qt hL6 hq6 (by unfold mdN; rw [hRz]; exact HI5.out.eq)
      have hkn6 : keyN ((RS z6).flatMap mdL) = mN := by rw [hRz]; exact HKN.out
      have hIeq : mdN z6 = Ia := by have := hI6.eq; rwa [List.append_nil] at this
      have hIl := hI6.len (by omega)
      have hmdk := keyN_le hL6.a.n.md
      have hdl : ((RS z6).flatMap mdL).length ≤ 61 := by
        have := congrArg List.length hIeq
        unfold mdN at this
        rw [List.length_map] at this
        omega
      have hkd := hL6.a.n.kd
      have hkl := keD_keyN ((RS z6).flatMap mdL)
      have hkle := klen_any hL6.a.i.qx.x
      rw [hkd, hkl, hkn6] at hkle
      have x2 : w6.cell? ⟨rb, 2, none⟩ = some (.pointer (some ⟨xb, 0, none⟩)) := hI6.rig.cells.2.2.1
      obtain ⟨ua, uc, hu6⟩ := hI6.row.len layK
      obtain ⟨nI, hnI⟩ : ∃ q, q = Ia.length := ⟨_, rfl⟩
      rw [← hnI] at hu6 hIl
      subst hu6
      have HROW : Hid (∀ j x, Ia[j]? = some x → ∃ g, ua = some ⟨g, 0, none⟩ ∧ w6.cell? ⟨g, j, none⟩ = some (.int .i64 x)) := Lib.hid (fun j x hx => by
        obtain ⟨g, h1, h2⟩ := hI6.row.at_ layK hx
        have := h2 0 (.int .i64 x) rfl
        rw [Nat.mul_one, Nat.add_zero] at this
        exact ⟨g, h1, this⟩)
      have HKLE := Lib.hid hkle
      have HI6 := Lib.hid hI6
      have HKD : Hid (z6.y.R = keD ((RS z6).flatMap mdL) ∧ (keD ((RS z6).flatMap mdL)).length ≤ 1000) := Lib.hid ⟨hkd, by omega⟩
      have HIQ := Lib.hid hIeq
      have HNI := Lib.hid hnI
      have HC6 : Hid (Chg (fun _ => False) w w6) := Lib.hid (HC2.out.trans hL6.chg (fun _ _ x => x))
      clear hL6 hq6 hx6 ht6 hRz hI6 hkn6 hIeq hmdk hdl hkd hkl hkle hnI x3
      go_wp2_with fail
      refine HKLE.out.mono ?_
      rintro e w7 ⟨rfl, rfl⟩
      clear x2
      go_wp2_with fail
      go_loopw [92] (fun i wr => ∃ j : Nat, j ≤ nI ∧ i = .int .i64 (j : Int) ∧ Hid (Chg (fun _ => False) w6 wr)) (fun i _ => nI - (intOf i).toNat)
      case atStart => exact ⟨0, Nat.zero_le _, rfl, Lib.hid (Chg.refl _ _)⟩
      case round =>
        obtain ⟨j, hj, rfl, HR⟩ := hrel
        by_cases hjl : j < nI
        · as_aux_lemma =>
          obtain ⟨x, hx⟩ : ∃ x, Ia[j]? = some x := ⟨_, List.getElem?_eq_getElem (by rw [← HNI.out]; exact hjl)⟩
          obtain ⟨g, rfl, f0⟩ := HROW.out j x hx
          have f0 := HR.out.cell f0 (fun q => q)
          have hxm := List.mem_of_getElem? hx
          rw [← HIQ.out] at hxm
          obtain ⟨r, hrm, hrx⟩ := List.mem_map.1 hxm
          subst hrx
          have hI := HI6.out.new HR.out
          obtain ⟨r1, hr1, hr2⟩ := List.mem_flatMap.1 hrm
          have hrr : r = r1 ∧ isMD r.m = true := by
            unfold mdL at hr2
            split at hr2
            · rename_i hh
              have := List.mem_singleton.1 hr2
              exact ⟨this, by rw [this]; exact hh⟩
            · cases hr2
          have hrs : r ∈ RS z6 := by rw [hrr.1]; exact hr1
          have hot : OnTape z6 r := ⟨hrs, hI.lw.a.end_⟩
          have hmo := hot.md hI.lw.a.i hrr.2
          have HRD := Lib.hid (hot.read hI.lw.a.i)
          have hidl : r.id ≤ 1000000 := by
            have h1 := hI.lw.lt_end hrs
            have h2 := hI.lw.len
            have h3 := hI.lw.i0
            rw [h3] at h1
            omega
          have x0 : wr.cell? ⟨rb, 0, none⟩ = some (.pointer (some ⟨tb, 0, none⟩)) := hI.rig.cells.1
          have HFN : Hid (∀ W, Chg (fun _ => False) wr W → ∀ key ∈ r.m.keys, Calls Tryz.prog 20 #[.pointer (some ⟨xb, 0, none⟩), .string r.m.topic, .string key, .int .i64 0, .int .i64 1000] W fun e w' => ∃ v, ∃ F : List Int, e = .returned (.tuple #[v, .int .i64 0]) ∧ w'.ownsRow W.heap.size 3 1 v F.length (F.map (Value.int .i64)) ∧ Chg (fun _ => False) W w' ∧ (r.id : Int) ∈ F ∧ F.length ≤ 1000) := Lib.hid (fun W hW key hkey => by
            have h1 := (hI.new hW).lw.a.i.qx.x
            have h2 := find_has hrm hkey HKD.out.2
            have ht1 := (topic_small hmo.top).2
            have hk1 := (hmo.key key hkey).2
            refine (kfind_any h1 (by rw [HKD.out.1]; have := HKD.out.2; omega) r.m.topic key (by unfold maxLen; omega) (by unfold maxLen; omega) 0 1000).mono ?_
            rintro e w' ⟨v, rfl, h3, h4⟩
            rw [HKD.out.1] at h3
            exact ⟨v, _, rfl, h3, h4, h2.1, h2.2⟩)
          have HRIG : Hid (∀ W, Chg (fun _ => False) wr W → W.cell? ⟨rb, 2, none⟩ = some (.pointer (some ⟨xb, 0, none⟩))) := Lib.hid (fun W hW => (hI.rig.new hW).cells.2.2.1)
          have hmany := hmo.many
          obtain ⟨rid, rlen, m1, mq, m3, m4, m5, m6, m7, m8, m9, m10⟩ := r
          obtain ⟨zid, hzid⟩ : ∃ q : Int, q = (rid : Int) := ⟨_, rfl⟩
          unfold ReadTo MsgM.val MsgM.cells at HRD
          dsimp only at *
          rw [← hzid] at HRD HFN f0
          have HZI := Lib.hid hzid
          clear hx hxm hrm hI hr1 hr2 hrr hrs hot hmo hzid
          go_wp2_with fail
          refine HRD.out.mono ?_
          rintro e w8 ⟨vk, rfl, hst, _, hb8⟩
          obtain ⟨ka, kc, hvk⟩ := hst.form
          obtain ⟨nk, hnk⟩ : ∃ q, q = m10.length := ⟨_, rfl⟩
          rw [← hnk] at hvk hmany
          subst hvk
          obtain ⟨W9, hW9⟩ : ∃ W, W = w8.alloc (.cells #[.int .i64 m1, .int .i64 mq, .int .i64 m3, .int .i64 m4, .int .i64 m5, .int .i64 m6, .string m7, .string m8, .string m9, .slice ka nk kc] 46) := ⟨_, rfl⟩
          obtain ⟨bx, hbx'⟩ : ∃ q, q = w8.heap.size := ⟨_, rfl⟩
          have hc9 : Chg (fun _ => False) wr W9 := (Chg.of_below hb8 : Chg (fun _ => False) wr w8).trans (hW9 ▸ Chg.alloc _ (Chg.refl _ _) _) (fun _ _ x => x)
          have hbx : Box W9 bx #[.int .i64 m1, .int .i64 mq, .int .i64 m3, .int .i64 m4, .int .i64 m5, .int .i64 m6, .string m7, .string m8, .string m9, .slice ka nk kc] := by rw [hW9, hbx']; exact Box.new w8 _
          have HST : Hid (∀ W, Chg (fun _ => False) W9 W → ∀ i, i < nk → ∃ b o, ka = some ⟨b, o, none⟩ ∧ W.cell? ⟨b, o + i, none⟩ = some (.string (m10.getD i ⟨#[]⟩))) := Lib.hid (fun W hW i hi => by
            have h1 : Strs W9 wr.heap.size (.slice ka nk kc) m10 := hst.below (hW9 ▸ (Below.refl _ _).alloc (Nat.le_refl _) _ : Below w8.heap.size w8 W9) (Nat.le_refl _)
            have h2 := h1.below (chg_below hW) (Nat.le_refl _)
            exact h2.cellAt (by omega))
          have k0 := hbx.cell
          have HBX := Lib.hid hbx
          have HC9 := Lib.hid hc9
          have HW9 := Lib.hid hW9
          have HBB := Lib.hid hbx'
          have HNK := Lib.hid hnk
          clear hst hb8 hnk hW9 hbx' hc9 hbx x0 f0
          go_upto_region 27 with fail
          rw [← HW9.out, ← HBB.out]
          go_wp2_with fail
          clear k0
          go_loopw [108] (fun i wi => ∃ q : Nat, q ≤ nk ∧ i = .int .i64 (q : Int) ∧ Hid (Chg (fun _ => False) W9 wi)) (fun i _ => nk - (intOf i).toNat)
          case atStart => exact ⟨0, Nat.zero_le _, rfl, Lib.hid (Chg.refl _ _)⟩
          case round =>
            obtain ⟨q, hq, rfl, HQ⟩ := hrel
            by_cases hql : q < nk
            · as_aux_lemma =>
              obtain ⟨b, o, rfl, c0⟩ := HST.out _ HQ.out q hql
              have hmem : m10.getD q ⟨#[]⟩ ∈ m10 := by
                rw [List.getD_eq_getElem?_getD, List.getElem?_eq_getElem (by rw [← HNK.out]; exact hql), Option.getD_some]
                exact List.getElem_mem _
              obtain ⟨key, hkey⟩ : ∃ s, s = m10.getD q ⟨#[]⟩ := ⟨_, rfl⟩
              rw [← hkey] at c0 hmem
              have hcw := HC9.out.trans HQ.out (fun _ _ x => x)
              have HF := Lib.hid (HFN.out _ hcw key hmem)
              have x2 := HRIG.out _ hcw
              have k6 : wr.cell? ⟨bx, 6, none⟩ = some (.string m7) := HQ.out.cell (HBX.out.cell 6) (fun x => x)
              clear hmem hkey hcw
              go_wp2_with fail
              refine HF.out.mono ?_
              rintro e w10 ⟨vF, F, rfl, hoF, hcF, hin, hFl⟩
              obtain ⟨W11, hW11⟩ : ∃ W, W = w10.alloc (.cells #[.int .i64 zid] 3) := ⟨_, rfl⟩
              have hc11 : Chg (fun _ => False) w10 W11 := hW11 ▸ Chg.alloc _ (Chg.refl _ _) _
              obtain ⟨fb, hfb⟩ : ∃ q, q = w10.heap.size := ⟨_, rfl⟩
              have HCO := Lib.hid (dcontains_any (hc11.row hoF (fun _ _ x => x)) hFl zid hin fb (by rw [hW11, hfb]; simp))
              have HC11 : Hid (Chg (fun _ => False) W9 W11) := Lib.hid ((HQ.out.trans hcF (fun _ _ x => x)).trans hc11 (fun _ _ x => x))
              have HW11 := Lib.hid hW11
              have HFB := Lib.hid hfb
              clear hoF hcF hin hFl hW11 hc11 hfb c0 x2 k6
              go_wp2_with fail
              rw [← HW11.out, ← HFB.out]
              refine HCO.out.mono ?_
              rintro e w12 ⟨rfl, hc12⟩
              have HC12 : Hid (Chg (fun _ => False) W9 w12) := Lib.hid (HC11.out.trans hc12 (fun _ _ x => x))
              clear hc12
              go_wp2_with fail
              exact ⟨⟨q + 1, by omega, by go_num, HC12⟩, by simp [intOf]; omega⟩
            · as_aux_lemma =>
              have HCW : Hid (Chg (fun _ => False) w6 wr) := Lib.hid ((HR.out.trans HC9.out (fun _ _ x => x)).trans HQ.out (fun _ _ x => x))
              go_wp2_with fail
              exact ⟨⟨j + 1, by omega, by go_num, HCW⟩, by simp [intOf]; omega⟩
        · have HE : Hid (Below w.heap.size w wr) := Lib.hid (chg_below (HC6.out.trans HR.out (fun _ _ x => x)))
          go_wp2_with fail
          go_ret
          exact ⟨rfl, HE.out⟩
end Go.Proofs.YtdnhgodfmjapmaaGreatDoor
