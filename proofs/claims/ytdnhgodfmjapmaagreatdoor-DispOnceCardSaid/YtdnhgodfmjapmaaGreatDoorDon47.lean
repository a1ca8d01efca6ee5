/- A part. -/
import Derived.Test.YtdnhgodfmjapmaaGreatDoorDon36
import Derived.Test.YtdnhgodfmjapmaaGreatDoorDon46
set_option linter.unusedVariables false
set_option linter.unusedSimpArgs false
namespace Go.Proofs.YtdnhgodfmjapmaaGreatDoor
open Go.RowKit Go.Deep
def someL (L : List (QK × Nat)) : List (QK × Option Nat) := L.map fun p => (p.1, some p.2)
theorem someL_keys (L : List (QK × Nat)) : (someL L).map (·.1) = L.map (·.1) := by
  unfold someL
  rw [List.map_map]
  rfl
def RangeQ (w : World) (mv : Option Nat) (r : Nat) (M vis rem : List (QK × Option Nat)) (cnt : Nat) : Prop := match mv with
  | none => rem = [] ∧ vis = [] ∧ M = [] ∧ ∀ ty, (Instr.next (.pointer (some ⟨r, 0, none⟩)) false ty).run Tryz.prog w = .ok (.tuple #[.bool false]) w
  | some mb => RangeK qK lnEl w mb r M vis rem cnt
theorem RangeQ.kept {w w' : World} {mb r : Nat} {M vis rem : List (QK × Option Nat)} {cnt : Nat} (h : RangeQ w (some mb) r M vis rem cnt) {S : Nat → Prop} (hc : Chg S w w') (h1 : ¬ S mb) (h2 : ¬ S r) (l1 : mb < w.heap.size) (l2 : r < w.heap.size) : RangeQ w' (some mb) r M vis rem cnt :=
  RangeK.kept (K := qK) (E := lnEl) h (hc.block _ l1 h1) (hc.block _ l2 h2)
theorem RangeQ.done {w : World} {mv : Option Nat} {r : Nat} {M vis : List (QK × Option Nat)} {cnt : Nat} (h : RangeQ w mv r M vis [] cnt) : vis.Perm M := by
  cases mv with
  | none => obtain ⟨_, rfl, rfl, _⟩ := h; exact List.Perm.refl _
  | some m => exact RangeK.done (K := qK) (E := lnEl) h
theorem RangeQ.len {w : World} {mv : Option Nat} {r : Nat} {M vis rem : List (QK × Option Nat)} {cnt : Nat} (h : RangeQ w mv r M vis rem cnt) : vis.length + rem.length = M.length := by
  cases mv with
  | none => obtain ⟨rfl, rfl, rfl, _⟩ := h; rfl
  | some m =>
    obtain ⟨_, _, hp, _⟩ := h
    have := hp.length_eq
    rw [List.length_append] at this
    exact this
def toComeQ (mv : Option Nat) (w : World) (r : Nat) : Nat := match mv with | none => 0 | some m => w.rangeLeft m r
theorem RangeQ.left {w : World} {m r : Nat} {M vis rem : List (QK × Option Nat)} {cnt : Nat} (h : RangeQ w (some m) r M vis rem cnt) : toComeQ (some m) w r = cnt := RangeK.left (K := qK) (E := lnEl) h
section
variable {w : World} {ops : Array Oper} {rest : List Oper} {o : Oper} {a : Act} {Q : Exit → Act → World → Prop}
theorem wpList_range_q (hg : o.guard = none) (m : Operand) (hop : o.op = Op.range 122 m) (mv : Option Nat) (L : List (QK × Nat))
    (hm : a.eval m = .map mv) (h : MapIs w mv L)
    (hK : ∀ w' cnt, RangeQ w' mv w.heap.size (someL L) [] (someL L) cnt → w.grownBy w' none → w'.heap.size = w.heap.size + 1 → wpList Tryz.prog ops Q rest (a.put o.dst (.pointer (some ⟨w.heap.size, 0, none⟩))) w') : wpList Tryz.prog ops Q (o :: rest) a w := by
  refine wpList_plain hg fun K' hK' => ?_
  have hs : ∃ w' cnt, (Instr.range 122 (.map mv)).run Tryz.prog w = .ok (.pointer (some ⟨w.heap.size, 0, none⟩)) w' ∧ RangeQ w' mv w.heap.size (someL L) [] (someL L) cnt ∧ w.grownBy w' none ∧ w'.heap.size = w.heap.size + 1 := by
    cases mv with
    | none =>
      have h2 : L = [] := h
      subst h2
      exact ⟨_, 0, run_range_nilMap w _ _ _ Tryz.underlying122, ⟨rfl, rfl, rfl, fun ty => run_next_nilMap w ty 0 0 #[]⟩, World.grownBy_alloc _ _ _, by simp⟩
    | some mb =>
      have h1 : MapK qK lnEl w mb (someL L) := h
      exact MapK.range (K := qK) (E := lnEl) h1 (t := 122) (e := 99) Tryz.underlying122
  obtain ⟨w', cnt, hrun, r1, r2, r3⟩ := hs
  unfold Oper.wp
  simp [execOp, hop, hm, hrun, Result.andThen]
  exact hK' _ _ (hK w' cnt r1 r2 r3)
theorem wpList_next_q (hg : o.guard = none) (it : Operand) (hop : o.op = Op.next it false) (mv : Option Nat) (r : Nat) (M vis rem : List (QK × Option Nat)) (cnt : Nat)
    (hit : a.eval it = .pointer (some ⟨r, 0, none⟩)) (h : RangeQ w mv r M vis rem cnt)
    (hDone : rem = [] → wpList Tryz.prog ops Q rest (a.put o.dst (.tuple #[.bool false])) w)
    (hMore : ∀ k b r1 r2 w' cnt', rem = r1 ++ (k, b) :: r2 → mv ≠ none → RangeQ w' mv r M (vis ++ [(k, b)]) (r1 ++ r2) cnt' → cnt' < cnt → w.grownBy w' (some r) → w'.heap.size = w.heap.size →
      (Instr.entry (.pointer (some ⟨r, 0, none⟩))).run Tryz.prog w' = .ok (.tuple #[k.kv, optV b]) w' → wpList Tryz.prog ops Q rest (a.put o.dst (.tuple #[.bool true, k.kv, optV b])) w') : wpList Tryz.prog ops Q (o :: rest) a w := by
  refine wpList_plain hg fun K' hK' => ?_
  unfold Oper.wp
  have hs : (rem = [] ∧ (Instr.next (.pointer (some ⟨r, 0, none⟩)) false o.type).run Tryz.prog w = .ok (.tuple #[.bool false]) w) ∨
    ∃ k b r1 r2 w' cnt', rem = r1 ++ (k, b) :: r2 ∧ mv ≠ none ∧ (Instr.next (.pointer (some ⟨r, 0, none⟩)) false o.type).run Tryz.prog w = .ok (.tuple #[.bool true, k.kv, optV b]) w' ∧ RangeQ w' mv r M (vis ++ [(k, b)]) (r1 ++ r2) cnt' ∧ cnt' < cnt ∧ w.grownBy w' (some r) ∧ w'.heap.size = w.heap.size ∧
      (Instr.entry (.pointer (some ⟨r, 0, none⟩))).run Tryz.prog w' = .ok (.tuple #[k.kv, optV b]) w' := by
    cases mv with
    | none =>
      obtain ⟨h1, _, _, h2⟩ := h
      exact .inl ⟨h1, h2 o.type⟩
    | some m =>
      rcases RangeK.next (K := qK) (E := lnEl) h o.type with h0 | ⟨k, b, r1, r2, w', cnt', h1, _, h2, h3, h4, h5, h6, h7⟩
      · exact .inl h0
      · exact .inr ⟨k, b, r1, r2, w', cnt', h1, by simp, h2, h3, h4, h5, h6, h7⟩
  rcases hs with ⟨h0, hrun⟩ | ⟨k, b, r1, r2, w', cnt', hr, hmb, hrun, hri, hlt, hgr, hsz, hen⟩
  · simp [execOp, hop, hit, hrun, Result.andThen]
    exact hK' _ _ (hDone h0)
  · simp [execOp, hop, hit, hrun, Result.andThen]
    exact hK' _ _ (hMore k b r1 r2 w' cnt' hr hmb hri hlt hgr hsz hen)
end
theorem RangeQ.grown {w w' : World} {m r base : Nat} {M vis rem : List (QK × Option Nat)} {cnt : Nat} {v : Value} {e : TypeId} {sz n : Nat} {xs : List Value} (h : RangeQ w (some m) r M vis rem cnt) (ho : w.ownsRow base e sz v n xs) (hg : w.grownBy w' v.ownBlock) (h1 : m < base) (h2 : r < base) (l1 : m < w.heap.size) (l2 : r < w.heap.size) : RangeQ w' (some m) r M vis rem cnt := by
  refine h.kept (Chg.of_grown (S := fun k => some k = v.ownBlock) hg (fun k hk _ => hk.symm)) (fun hx => ?_) (fun hx => ?_) l1 l2
  · have := (ho.lt m hx.symm).1; omega
  · have := (ho.lt r hx.symm).1; omega
theorem info_id : (Tryz.prog.info? 98).map (fun i => (i.zero, i.size, i.bytes)) = some (some (.agg #[.string ⟨#[]⟩, .int .i64 0]), 2, 24) := by kernel_rfl
theorem IdsAt.base {w : World} {b b' : Nat} {v : Value} {l : List QK} (h : IdsAt w b v l) (hb : b' ≤ b) : IdsAt w b' v l := by
  refine ⟨h.1, ?_⟩
  rcases h.2 with h0 | ⟨g, cap, cur, e, hbg, rest⟩
  · exact .inl h0
  · exact .inr ⟨g, cap, cur, e, by omega, rest⟩
def IdsTo (L : List (QK × Nat)) (w : World) (e : Ending) (w' : World) : Prop := ∃ v l, e = .returned v ∧ l.Perm (L.map (·.1)) ∧ QSorted l ∧ IdsAt w' w.heap.size v l ∧ Below w.heap.size w w'
set_option maxHeartbeats 2000000 in
set_option maxRecDepth 100000 in
theorem qids_any {w : World} {qb d : Nat} {mv : Option Nat} {L : List (QK × Nat)} (h : w.heap[qb]? = some (.cells #[.pointer (some ⟨d, 0, none⟩), .map mv] 124 (0, 0))) (hm : MapIs w mv L) (hL : L.length ≤ 1000000) :
    Calls Tryz.prog 40 #[.pointer (some ⟨qb, 0, none⟩)] w (IdsTo L w) := by
  obtain ⟨c0, c1, z⟩ := qs_cell h
  have z1 := z 1
  obtain ⟨i0, hi, hz0, hz1, hz2⟩ := info_parts info_id
  obtain ⟨R, hR⟩ : ∃ R, R = w.heap.size := ⟨_, rfl⟩
  have HR := Lib.hid hR
  have hmR : ∀ m, mv = some m → m < R := fun m hx => by subst hx; rw [hR]; exact MapIs.lt hm
  have HMR := Lib.hid hmR
  have HM := Lib.hid hm
  have HLL : Hid ((someL L).length ≤ 1000000) := Lib.hid (by unfold someL; rw [List.length_map]; exact hL)
  obtain ⟨ML, hML⟩ : ∃ ML, ML = someL L := ⟨_, rfl⟩
  rw [← hML] at HLL
  have HML := Lib.hid hML
  clear h hm z hmR hL
  go_enter Tryz.func40, Tryz.ntmps40
  go_wp2_with (at_range; refine wpList_range_q rfl _ rfl mv L rfl HM.out ?_; intro w0 cnt0 hrg0 hg0 hs0)
  rw [← hR, ← hML] at hrg0
  rw [← hR] at hs0 ⊢
  go_frame
  have HRG := Lib.hid hrg0
  have HG0 := Lib.hid hg0
  have HS0 := Lib.hid hs0
  clear hrg0 hg0 hs0 hR hML
  go_loopw [3, 4] (fun u _ wr => ∃ v vis rem cnt, v = u ∧ RangeQ wr mv R ML vis rem cnt ∧ Below w.heap.size w wr ∧ R + 1 ≤ wr.heap.size ∧ IdsAt wr (R + 1) v (vis.map (·.1))) (fun _ _ wr => toComeQ mv wr R)
  case atStart => exact ⟨_, [], _, _, rfl, HRG.out, below_grown (Below.refl _ _) HG0.out (Nat.le_refl _), by rw [HS0.out]; exact Nat.le_refl _, World.ownsRow_nil _ _ _ _⟩
  case round =>
    obtain ⟨v, vis, rem, cnt, rfl, hrg, hbl, hsz, hown⟩ := hrel
    have HRG1 := Lib.hid hrg
    have HBL := Lib.hid hbl
    have HOWN := Lib.hid hown
    clear hrg hbl HRG hown
    obtain ⟨wo, hwo⟩ : ∃ wo : World, wo = wr := ⟨_, rfl⟩
    subst hwo
    go_wp2_with (at_next; refine wpList_next_q rfl _ rfl mv R ML vis rem cnt rfl HRG1.out ?cd ?cm)
    case cd =>
      intro hrem
      have hp : vis.Perm ML := by
        have := HRG1.out
        rw [hrem] at this
        exact this.done
      have hlen : (vis.map (·.1)).length < 4611686018427387904 := by
        rw [List.length_map, hp.length_eq]
        have := HLL.out
        omega
      have hs := qsort_any v (vis.map (·.1)) (R + 1) wo HOWN.out hlen
      have HP := Lib.hid hp
      have HSO := Lib.hid hs
      clear hrem hp hs hlen
      go_wp2_with (go_at_call 80; refine HSO.out.mono ?_; rintro e w2 ⟨rfl, l', hp2, hs2, ho2, hg2⟩)
      go_ret
      refine ⟨v, l', rfl, hp2.trans ?_, hs2, ho2.base (by have := HR.out; omega), ?_⟩
      · rw [← someL_keys, ← HML.out]
        exact HP.out.map _
      · refine HBL.out.grown hg2 HBL.out.size (fun k hk => ?_)
        have := (HOWN.out.lt k hk).1
        have := HR.out
        omega
    case cm =>
      intro kt kn kp b r1 r2 w2 cnt2 hrem hmb hrg2 hlt hg2 hs2 hen
      obtain ⟨m, hm⟩ : ∃ m, mv = some m := by
        cases hq : mv with
        | none => exact absurd hq hmb
        | some m => exact ⟨m, rfl⟩
      have hvl : vis.length + 1 ≤ 1000000 := by
        have h1 := HRG1.out.len
        have h2 := HLL.out
        rw [hrem, List.length_append, List.length_cons] at h1
        omega
      have hbl2 : Below w.heap.size w w2 := below_grown' HBL.out hg2 (Nat.le_refl _) (by rw [HR.out]; exact Nat.le_refl _)
      have hown2 : IdsAt w2 (R + 1) v (vis.map (·.1)) := HOWN.out.kept hg2 (by
        by_cases h0 : v.ownBlock = none
        · exact .inl h0
        · right
          intro hx
          have := (HOWN.out.lt R hx).1
          omega)
      have hme : cnt2 < toComeQ mv wo R := by
        have h2 := HRG1.out
        rw [hm] at h2 ⊢
        rw [h2.left]
        exact hlt
      have HRG2 := Lib.hid hrg2
      have HBL2 := Lib.hid hbl2
      have HME := Lib.hid hme
      have HM2 := Lib.hid hm
      have hsz2 : R + 1 ≤ w2.heap.size := by rw [hs2]; exact hsz
      obtain ⟨acc, hacc⟩ : ∃ acc, acc = vis.map (·.1) := ⟨_, rfl⟩
      have hal : acc.length + 1 ≤ 1000000 := by rw [hacc, List.length_map]; exact hvl
      rw [← hacc] at hown2
      have HACC := Lib.hid hacc
      have HOWN2 := Lib.hid hown2
      obtain ⟨kq, hkq⟩ : ∃ kq : QK, kq = ⟨(kt, kn), kp⟩ := ⟨_, rfl⟩
      have HK := Lib.hid hkq
      unfold QK.kv at hen ⊢
      dsimp only at hen ⊢
      clear hrem hmb hrg2 hlt hg2 hs2 hbl2 hown2 hme hm HRG1 HBL HOWN hvl hacc hkq
      go_wp2_with (at_builtin; refine wpList_append_own _ rfl (.tmp 16) (.tmp 18) 95 rfl (R + 1) 98 i0 _ 2 24 Tryz.underlying95 hi hz0 hz1 hz2 rfl (by decide) v acc.length (acc.flatMap qenc) rfl (World.ownsRow.alloc (World.ownsRow.alloc HOWN2.out _) _) ⟨w2.heap.size + 1, 0, none⟩ 1 1 (qenc kq) rfl rfl ?c1 (qenc_one _) ?c3 ?c4 ?c5 ?c6)
      case c1 =>
        intro j u hu
        rw [HK.out] at hu
        rw [add_none]
        have hu' : #[Value.string kt, Value.int .i64 kn][j]? = some u := by simpa [qenc] using hu
        simpa using hu'
      case c3 => unfold maxLen; omega
      case c4 => omega
      case c5 => first | omega | (simp; omega)
      case c6 =>
        intro v' w4 hown4 hgrow4 _
        have hm := HM2.out
        have hr4 : RangeQ w4 mv R ML (vis ++ [(kq, b)]) (r1 ++ r2) cnt2 := by
          have h1 := HRG2.out
          rw [← HK.out] at h1
          rw [hm] at h1 ⊢
          have l1 : m < w2.heap.size := by have := HMR.out m hm; omega
          have h2 := h1.kept (S := fun _ => False) (Chg.alloc (fun _ => False) (Chg.alloc (fun _ => False) (Chg.refl _ _) (.cells #[.string kt, .int .i64 kn] 98)) (.cells #[.string kt, .int .i64 kn] 98)) (fun x => x) (fun x => x) l1 (by omega)
          exact h2.grown (World.ownsRow.alloc (World.ownsRow.alloc HOWN2.out _) _) hgrow4 (by have := HMR.out m hm; omega) (by omega) (by simp; omega) (by simp; omega)
        have hb4 : Below w.heap.size w w4 := by
          have h1 := ((HBL2.out).alloc HBL2.out.size (.cells #[.string kt, .int .i64 kn] 98)).alloc (by have := HBL2.out.size; simp; omega) (.cells #[.string kt, .int .i64 kn] 98)
          refine h1.grown hgrow4 h1.size (fun k hk => ?_)
          have := (HOWN2.out.lt k hk).1
          have := HR.out
          omega
        have hs4 : R + 1 ≤ w4.heap.size := by have := hgrow4.size; simp at this; omega
        have hme4 : toComeQ mv w4 R < toComeQ mv wo R := by
          have h1 := hr4
          have h2 := HME.out
          rw [hm] at h1 h2 ⊢
          rw [h1.left]
          exact h2
        have HR4 := Lib.hid hr4
        have HB4 := Lib.hid hb4
        have HO4 := Lib.hid hown4
        have HME4 := Lib.hid hme4
        clear hr4 hb4 hown4 hgrow4 hm hme4
        go_wp2_with fail
        refine ⟨⟨v', vis ++ [(kq, b)], r1 ++ r2, cnt2, rfl, HR4.out, HB4.out, hs4, ?_⟩, HME4.out⟩
        unfold IdsAt
        rw [List.map_append, ← HACC.out, List.length_append, List.flatMap_append]
        simpa using HO4.out
end Go.Proofs.YtdnhgodfmjapmaaGreatDoor
/- A part. -/
set_option linter.unusedVariables false
set_option linter.unusedSimpArgs false
namespace Go.Proofs.YtdnhgodfmjapmaaGreatDoor
open Go.RowKit Go.Deep
open Classical
def IdsC (w : World) (lo hi : Nat) (p : Option Addr) (l : List QK) : Prop := ∀ i k, l[i]? = some k → ∃ b, p = some ⟨b, 0, none⟩ ∧ lo ≤ b ∧ b < hi ∧ w.cell? ⟨b, i * 2, none⟩ = some (.string k.1.1) ∧ w.cell? ⟨b, i * 2 + 1, none⟩ = some (.int .i64 k.1.2)
theorem IdsC.keep {w w' : World} {lo hi : Nat} {p : Option Addr} {l : List QK} (h : IdsC w lo hi p l) (hk : ∀ b o v, lo ≤ b → b < hi → w.cell? ⟨b, o, none⟩ = some v → w'.cell? ⟨b, o, none⟩ = some v) : IdsC w' lo hi p l := fun i k hi2 => by
  obtain ⟨b, h1, h2, h3, h4, h5⟩ := h i k hi2
  exact ⟨b, h1, h2, h3, hk _ _ _ h2 h3 h4, hk _ _ _ h2 h3 h5⟩
theorem IdsAt.form {w : World} {base : Nat} {v : Value} {l : List QK} (h : IdsAt w base v l) : ∃ (p : Option Addr) (cap : Nat), v = .slice p l.length cap ∧ IdsC w base w.heap.size p l := by
  rcases h.2 with ⟨rfl, h0⟩ | ⟨g1, cap, cur, rfl, hbase, hb, h1, h2, h3, h4⟩
  · obtain rfl : l = [] := List.length_eq_zero_iff.1 h0
    exact ⟨none, 0, rfl, fun i k hi => by simp at hi⟩
  · have hcell : ∀ j, j < l.length * 2 → cur[j]? = (l.flatMap qenc)[j]? := fun j hj => by
      have e1 : (cur.toList.take (l.length * 2))[j]? = (l.flatMap qenc)[j]? := by rw [h4]
      rwa [List.getElem?_take, if_pos hj, Array.getElem?_toList] at e1
    refine ⟨_, cap, rfl, fun i k hi => ⟨g1, rfl, hbase, (Array.getElem?_eq_some_iff.1 hb).1, ?_, ?_⟩⟩
    · have hlt := (List.getElem?_eq_some_iff.1 hi).1
      have := hcell (i * 2) (by omega)
      have e := qflat_get qenc_length l i 0 (by omega)
      rw [Nat.add_zero, hi] at e
      simp only [World.cell?, hb]
      rw [this, e]
      rfl
    · have hlt := (List.getElem?_eq_some_iff.1 hi).1
      have := hcell (i * 2 + 1) (by omega)
      have e := qflat_get qenc_length l i 1 (by omega)
      rw [hi] at e
      simp only [World.cell?, hb]
      rw [this, e]
      rfl
theorem take_succ_at {ids : List QK} {j : Nat} {k : QK} (h : ids[j]? = some k) : ids.take (j + 1) = ids.take j ++ [k] := by
  rw [List.take_add_one, h]
  rfl
end Go.Proofs.YtdnhgodfmjapmaaGreatDoor
