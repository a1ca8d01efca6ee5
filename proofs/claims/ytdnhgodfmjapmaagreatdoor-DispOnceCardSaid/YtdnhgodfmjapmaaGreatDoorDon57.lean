/- A part. -/
import Derived.Test.YtdnhgodfmjapmaaGreatDoorDon56
set_option linter.unusedVariables false
set_option linter.unusedSimpArgs false
namespace Go.Proofs.YtdnhgodfmjapmaaGreatDoor
open Go.RowKit Go.Deep
def curS (z : DspG) : Nat := max z.c (1024 * z.x.i0)
def toDo (z : DspG) : List RcM := nxt (recsI (1024 * z.x.i0) z.x.l) (curS z)
def StepTo (w0 w : World) (B : DspB) (z : DspG) (e : Ending) (w' : World) : Prop :=
  ((toDo z = [] ∨ ∃ r rest, toDo z = r :: rest ∧ z.x.m.synced ≤ (r.id : Int)) ∧ e = .returned (.tuple #[.bool false, .int .i64 0]) ∧ DspI w0 w' B { z with c := curS z } ∧ QTo w (z.own B) w' (DspG.own B { z with c := curS z })) ∨
  (∃ r rest z1, toDo z = r :: rest ∧ (r.id : Int) < z.x.m.synced ∧ e = .returned (.tuple #[.bool true, .int .i64 0]) ∧ LookP { z with c := curS z } z1 r ∧ DspI w0 w' B { z1 with c := r.id + r.len } ∧ QTo w (z.own B) w' (DspG.own B { z1 with c := r.id + r.len }))
structure StepOk (z : DspG) : Prop where
  end_ : 1024 * z.x.i0 + (bytesI z.x.l).length ≤ 1000000000
  c : z.c ≤ 1000000000
  l : z.x.l.length ≤ 1000000
  bg : z.k = 0 ∨ z.b < z.c
  cap : z.y.st.size + 80 ≤ z.y.st.cap
  n : z.y.n ≤ 90000
  L : z.y.L.length ≤ 1000000
  R : z.y.R.length ≤ 90000
theorem toDo_ids {w0 w : World} {B : DspB} {z : DspG} (h : DspI w0 w B z) : z.x.t.ids.drop (lowN z.x.t.ids ((curS z : Nat) : Int)) = (toDo z).map fun r => (r.id : Int) := by
  have e := h.tp.tn.ids
  rw [e]
  exact nxt_ids h.tp.la' (curS z)
set_option maxHeartbeats 8000000 in
set_option maxRecDepth 100000 in
theorem dstep_any {w0 w : World} {B : DspB} {z : DspG} (h : DspI w0 w B z) (ho : StepOk z) : Calls Tryz.prog 9 #[.pointer (some ⟨B.db, 0, none⟩)] w (StepTo w0 w B z) := by
  obtain ⟨c0, c1, c2, c3, c4, c5, fz⟩ := h.cells
  have hend := ho.end_
  have hcc := ho.c
  have hi0 : 1024 * z.x.i0 ≤ 1000000000 := by omega
  have hcur : curS z ≤ 1000000000 := by unfold curS; omega
  have HB : Hid (Calls Tryz.prog 27 #[.pointer (some ⟨B.tb, 0, none⟩)] w.drew fun e w' => e = .returned (.int .i64 ((1024 * z.x.i0 : Nat) : Int)) ∧ w.drew = w') := Lib.hid (by
    have := tbegin_any (h.new (Chg.refl _ _).drew).tp.tg
    rw [h.tp.rc.row.beg] at this
    exact this)
  obtain ⟨s1, s2⟩ := (h.new (Chg.refl _ _).drew).set 3 (.int .i64 ((curS z : Nat) : Int)) (c := curS z) (b := z.b) (k := z.k) rfl
  have hs2 := (QTo.of_new (Chg.refl (fun _ => False) w).drew (F := z.own B)).trans s2
  have hmax : max (z.c : Int) ((1024 * z.x.i0 : Nat) : Int) = ((curS z : Nat) : Int) := by unfold curS; omega
  have HID := Lib.hid (toDo_ids h)
  have HH := Lib.hid h
  have HO := Lib.hid ho
  obtain ⟨cm, hcm⟩ : ∃ x : Int, x = ((curS z : Nat) : Int) := ⟨_, rfl⟩
  obtain ⟨zc, hzc⟩ : ∃ x : Int, x = (z.c : Int) := ⟨_, rfl⟩
  obtain ⟨zi, hzi⟩ : ∃ x : Int, x = ((1024 * z.x.i0 : Nat) : Int) := ⟨_, rfl⟩
  rw [← hcm] at s1 s2 hs2 hmax HID
  rw [← hzc] at c3 hmax
  rw [← hzi] at HB hmax
  have HS1 := Lib.hid s1
  have HS2 := Lib.hid hs2
  have HCM := Lib.hid hcm
  obtain ⟨db, tb, qb, xb⟩ := B
  dsimp only at *
  have f3 := fz 3
  clear h ho s1 s2 hs2 hcm hzc hzi hend hcc hi0 c4 c5 fz
  go_enter Tryz.func9, Tryz.ntmps9
  go_upto_region 3 with fail
  go_still_tail 13, (by kernel_rfl)
  repeat still_step
  still_call ((HB.out).mono fun _ _ h => ⟨h.1, h.2.symm⟩)
  repeat still_step
  refine wpStill_nil ?_
  change wpList _ _ _ _ _ w.drew
  have f3' : w.drew.frozen? ⟨db, 3, none⟩ = false := f3
  have c3' : w.drew.cell? ⟨db, 3, none⟩ = some (.int .i64 zc) := c3
  clear c0 c1 c2 c3 f3
  generalize w.drew = w1 at HB HS1 HS2 f3' c3' ⊢
  obtain ⟨W2, hW2⟩ : ∃ W, W = w1.setCell ⟨db, 3, none⟩ (.int .i64 cm) := ⟨_, rfl⟩
  rw [← hW2] at HS1 HS2
  have HW2 := Lib.hid hW2
  clear hW2
  have HSY : Hid (∀ W, Chg (fun _ => False) W2 W → Calls Tryz.prog 29 #[.pointer (some ⟨tb, 0, none⟩)] W fun e w' => e = .returned (.int .i64 z.x.m.synced) ∧ W = w') := Lib.hid (fun W hW => tsynced_any (HS1.out.new hW).tp.tg)
  obtain ⟨id0, hid0⟩ : ∃ x : Int, x = ((toDo z).map fun r => (r.id : Int)).getD 0 0 := ⟨_, rfl⟩
  obtain ⟨ok, hok⟩ : ∃ x : Bool, x = !((toDo z).map fun r => (r.id : Int)).isEmpty := ⟨_, rfl⟩
  have HN : Hid (∀ W, Chg (fun _ => False) W2 W → Calls Tryz.prog 28 #[.pointer (some ⟨tb, 0, none⟩), .int .i64 cm] W fun e w' => e = .returned (.tuple #[.int .i64 id0, .bool ok]) ∧ Chg (fun _ => False) W2 w') := Lib.hid (fun W hW => by
    have hi := HS1.out.new hW
    have hsr := hi.tp.sorted
    have hll : z.x.t.ids.length ≤ 1000000 := by
      have e := hi.tp.tn.ids
      have e2 : z.x.t.ids.length = (notesI (1024 * z.x.i0) z.x.l).length := by
        have := congrArg List.length e
        rw [List.length_map] at this
        exact this
      have := notesI_len (1024 * z.x.i0) z.x.l
      have := HO.out.l
      omega
    have := tnext_any hi.tp.tg.tape (le_of_lt' hsr) hll cm
    show Calls _ _ _ _ _
    have e := HID.out
    refine this.mono ?_
    rintro e' w' ⟨rfl, q, rfl⟩
    refine ⟨?_, hW.trans (chg_drewN W q) (fun _ _ x => x)⟩
    show Ending.returned (.tuple #[.int .i64 ((List.drop (lowN z.x.t.ids cm) z.x.t.ids).getD 0 0), .bool (!(List.drop (lowN z.x.t.ids cm) z.x.t.ids).isEmpty)]) = _
    rw [e, hid0, hok])
  obtain ⟨c0, d1, d2, c3, d4, d5, fz⟩ := HS1.out.cells
  clear d1 d2 d4 d5
  dsimp only at c0 c3 fz
  rw [← HCM.out] at c3
  have HI0 := Lib.hid hid0
  have HOK := Lib.hid hok
  clear hid0 hok fz hcur
  go_upto_region 4 with fail
  rw [← HW2.out]
  clear hmax f3' c3'
  go_cut [4, 5] (fun v4 v5 wx => v4 = .int .i64 id0 ∧ v5 = .bool ok ∧ Chg (fun _ => False) W2 wx)
  case first =>
    go_region_held3 (fun w' => w'.cell? ⟨db, 0, none⟩ = some (.pointer (some ⟨tb, 0, none⟩)) ∧ w'.cell? ⟨db, 3, none⟩ = some (.int .i64 cm))
      (first | exact ⟨c0, c3⟩ | go_keep)
      (first
        | (go_at_call 28
           refine (HN.out _ ?_).mono ?_
           · repeat (first | exact Chg.refl _ _ | with_reducible refine Chg.drew ?_ | with_reducible refine Chg.drewN ?_ _)
           rintro e w3 ⟨rfl, hcc⟩
           have c0 := hcc.cell c0 (fun x => x)
           have c3 := hcc.cell c3 (fun x => x)
           have HCC := Lib.hid hcc
           clear hcc))
    all_goals
      go_wp2_with fail
      go_meet
      case rel => exact ⟨rfl, rfl, by repeat (first | exact HCC.out | with_reducible refine Chg.drew ?_ | with_reducible refine Chg.drewN ?_ _)⟩
  case rest =>
    obtain ⟨rfl, rfl, hcx⟩ := hcut
    obtain ⟨x0, hx0⟩ : ∃ p, wc.cell? ⟨db, 0, none⟩ = p ∧ p = some (.pointer (some ⟨tb, 0, none⟩)) := ⟨_, hcx.cell c0 (fun x => x), rfl⟩
    obtain ⟨hx0, rfl⟩ := hx0
    clear c0 c3
    have HCX := Lib.hid hcx
    clear hcx
    cases htd : toDo z with
    | nil =>
      have e2 : ok = false := by have e2 := HOK.out; rw [htd] at e2; exact e2
      subst e2
      have HTD := Lib.hid htd
      clear htd
      go_wp2_with fail
      go_ret2
      exact .inl ⟨.inl HTD.out, rfl, HS1.out.new HCX.out, HS2.out.trans (QTo.of_new HCX.out)⟩
    | cons r rest =>
      have e1 : id0 = (r.id : Int) := by have e1 := HI0.out; rw [htd] at e1; exact e1
      have e2 : ok = true := by have e2 := HOK.out; rw [htd] at e2; exact e2
      subst e2
      subst e1
      have HTD := Lib.hid htd
      have hrm := nxt_sub (rs := recsI (1024 * z.x.i0) z.x.l) (c := curS z) r (by show r ∈ toDo z; rw [htd]; exact List.mem_cons_self ..)
      have HSYc := Lib.hid (HSY.out wc HCX.out)
      obtain ⟨sy, hsy⟩ : ∃ x, x = z.x.m.synced := ⟨_, rfl⟩
      rw [← hsy] at HSYc
      have HSYE := Lib.hid hsy
      have hic := HS1.out.new HCX.out
      have hon : OnTape { z with c := curS z } r := ⟨hrm.1, HO.out.end_⟩
      have hput := hon.put hic
      have hrl : r.id + r.len ≤ 2000000000 := by have := hput.2.choose_spec.2.2.2.2.2; have := HO.out.end_; dsimp only at *; omega
      have HLK := Lib.hid (dlook_any hic hon (by
        rcases HO.out.bg with x | x
        · exact .inl x
        · exact .inr (fun y => by have h2 := hrm.2; have : z.c ≤ curS z := Nat.le_max_left _ _; dsimp only at y; omega)) HO.out.cap HO.out.n HO.out.L HO.out.R)
      have HSZ : Hid ((getK z.x.t.M (r.id : Int)).getD 0 = (r.len : Int)) := Lib.hid (hon.size hic)
      dsimp only at HLK
      clear htd hrm hsy hic hon hput
      obtain ⟨rid, hrid⟩ : ∃ x : Int, x = (r.id : Int) := ⟨_, rfl⟩
      rw [← hrid] at HLK HSZ ⊢
      by_cases hge : sy ≤ rid
      · have HGE := Lib.hid hge
        have HRID := Lib.hid hrid
        clear hrid
        go_wp2_with fail
        refine HSYc.out.mono ?_
        rintro e w3 ⟨rfl, rfl⟩
        go_wp2_with fail
        go_ret2
        exact .inl ⟨.inr ⟨r, rest, HTD.out, by rw [← HSYE.out, ← HRID.out]; exact HGE.out⟩, rfl, HS1.out.new HCX.out, HS2.out.trans (QTo.of_new HCX.out)⟩
      · have hlt : (r.id : Int) < z.x.m.synced := by rw [← HSYE.out, ← hrid]; omega
        have HLT := Lib.hid hlt
        have HRID := Lib.hid hrid
        clear hrid hlt
        go_wp2_with fail
        refine HSYc.out.mono ?_
        rintro e w3 ⟨rfl, rfl⟩
        go_wp2_with fail
        refine HLK.out.mono ?_
        rintro e w4 ⟨rfl, z1, d1, q1, hlp⟩
        obtain ⟨c0, b1, b2, b3, b4, b5, fz⟩ := d1.cells
        dsimp only at c0 fz b3
        have f3 := fz 3
        have hsz := tsize_any d1.tp.tg.tape (r.id : Int) (twf_nat _ (by omega))
        rw [hlp.x] at hsz
        dsimp only at hsz
        have hsz2 := HSZ.out
        rw [HRID.out] at hsz2
        rw [hsz2] at hsz
        obtain ⟨s3, s4⟩ := d1.set 3 (.int .i64 ((r.id + r.len : Nat) : Int)) (c := r.id + r.len) (b := z1.b) (k := z1.k) rfl
        rw [← HRID.out] at hsz
        have e5 : IntKind.i64.wrap (rid + (r.len : Int)) = ((r.id + r.len : Nat) : Int) := by rw [HRID.out, IntWalk.i64_in _ (by omega)]; omega
        obtain ⟨nc, hnc⟩ : ∃ x : Int, x = ((r.id + r.len : Nat) : Int) := ⟨_, rfl⟩
        rw [← hnc] at e5 s3 s4
        have HZ := Lib.hid hsz
        have HS3 := Lib.hid s3
        have HS4 := Lib.hid (((HS2.out.trans (QTo.of_new HCX.out)).trans q1).trans s4)
        have HLP := Lib.hid hlp
        obtain ⟨rl, hrl2⟩ : ∃ x : Int, x = (r.len : Int) := ⟨_, rfl⟩
        rw [← hrl2] at HZ e5
        clear b1 b2 b4 b5 fz d1 q1 hlp hsz hsz2 s3 s4 hnc hrl2
        go_wp2_with fail
        refine HZ.out.mono ?_
        rintro e w5 ⟨rfl, rfl⟩
        go_wp2_with fail
        go_ret2
        exact .inr ⟨r, rest, z1, HTD.out, HLT.out, rfl, HLP.out, HS3.out, HS4.out⟩
structure DspA (w0 w : World) (B : DspB) (z : DspG) (D : List RcM) : Prop where
  i : DspI w0 w B z
  n : DspN z D
  end_ : 1024 * z.x.i0 + (bytesI z.x.l).length ≤ 1000000000
  c : z.c ≤ 1024 * z.x.i0 + (bytesI z.x.l).length
  l : z.x.l.length ≤ 1000000
  many : D.length + (toDo z).length ≤ 1000
  cap : 200000 ≤ z.y.st.cap
theorem DspA.new {w0 w w' : World} {B : DspB} {z : DspG} {D : List RcM} (h : DspA w0 w B z D) (hc : Chg (fun _ => False) w w') : DspA w0 w' B z D := { h with i := h.i.new hc }
theorem DspA.ok {w0 w : World} {B : DspB} {z : DspG} {D : List RcM} (h : DspA w0 w B z D) : StepOk z := by
  have h1 := manyD_le h.n.md
  have h2 := h.n.size
  have h3 := h.n.n
  have h4 := h.n.rel.len
  have h5 := h.many
  have h6 := h.cap
  have h7 : z.y.R.length ≤ manyD D := by rw [h.n.kd]; have := keD_length D; omega
  exact ⟨h.end_, Nat.le_trans h.c h.end_, h.l, h.n.bg, by omega, by omega, by omega, by omega⟩
theorem curS_of {z : DspG} {r : RcM} {c : Nat} {z' : DspG} (hx : z'.x = z.x) (hc : z'.c = c) (h : 1024 * z.x.i0 ≤ c) : curS z' = c := by unfold curS; rw [hx, hc]; omega
def AllE (z : DspG) (rest : List RcM) : Prop := rest = [] ∨ ∃ r l, rest = r :: l ∧ z.x.m.synced ≤ (r.id : Int)
def NextTo (w0 w : World) (B : DspB) (z : DspG) (D : List RcM) (e : Ending) (w' : World) : Prop :=
  (AllE z (toDo z) ∧ e = .returned (.tuple #[.bool false, .int .i64 0]) ∧ ∃ z', DspA w0 w' B z' D ∧ QTo w (z.own B) w' (z'.own B) ∧ z'.x = z.x ∧ toDo z' = toDo z) ∨
  (∃ r rest z', toDo z = r :: rest ∧ (r.id : Int) < z.x.m.synced ∧ e = .returned (.tuple #[.bool true, .int .i64 0]) ∧ DspA w0 w' B z' (D ++ mdL r) ∧ QTo w (z.own B) w' (z'.own B) ∧ z'.x = z.x ∧ toDo z' = rest)
theorem mdL_len (r : RcM) : (mdL r).length ≤ 1 := by unfold mdL; split <;> simp
theorem dnext_any {w0 w : World} {B : DspB} {z : DspG} {D : List RcM} (h : DspA w0 w B z D) : Calls Tryz.prog 9 #[.pointer (some ⟨B.db, 0, none⟩)] w (NextTo w0 w B z D) := by
  refine (dstep_any h.i h.ok).mono ?_
  rintro e w' (⟨h1, h2, h3, h4⟩ | ⟨r, rest, z1, h1, h2, h3, h4, h5, h6⟩)
  · refine .inl ⟨h1, h2, _, ⟨h3, ⟨h.n.rel, h.n.kd, h.n.bg.imp id (fun a => by have : z.c ≤ curS z := Nat.le_max_left _ _; show z.b < curS z; omega), h.n.ln, h.n.size, h.n.n, h.n.md⟩, h.end_, ?_, h.l, ?_, h.cap⟩, h4, rfl, ?_⟩
    · show curS z ≤ 1024 * z.x.i0 + (bytesI z.x.l).length
      have := h.c
      unfold curS
      omega
    · have e1 : toDo { z with c := curS z } = toDo z := by unfold toDo curS; dsimp only; congr 1; omega
      rw [e1]; exact h.many
    · unfold toDo curS; dsimp only; congr 1; omega
  · have hrm := nxt_sub (rs := recsI (1024 * z.x.i0) z.x.l) (c := curS z) r (by show r ∈ toDo z; rw [h1]; exact List.mem_cons_self ..)
    have hon : OnTape z r := ⟨hrm.1, h.end_⟩
    obtain ⟨_, bs, hp, hlen, a1, a2, a3, a4⟩ := hon.put h.i
    have hcur : z.c ≤ curS z := Nat.le_max_left _ _
    have hx : ({ z1 with c := r.id + r.len } : DspG).x = z.x := h4.x
    have hN := h.n.look h.i.qx.q.q.keys h4 (fun hm => md_ok hp hm) hcur hrm.2 (by omega)
    have htd : toDo { z1 with c := r.id + r.len } = rest := by
      unfold toDo
      rw [curS_of (z := z) (r := r) (c := r.id + r.len) hx rfl (by omega), hx]
      exact nxt_next (recsI_sorted h.i.tp.la') (fun y hy => by
        obtain ⟨_, _, _, _, b1, _⟩ := recsI_put h.i.tp.la' y hy
        omega) h1
    have hm := h.many
    rw [h1] at hm
    refine .inr ⟨r, rest, _, h1, h2, h3, ⟨h5, hN, by rw [hx]; exact h.end_, ?_, by rw [hx]; exact h.l, ?_, ?_⟩, h6, hx, htd⟩
    · rw [hx]
      exact a4
    · rw [htd, List.length_append]
      have := mdL_len r
      rw [List.length_cons] at hm
      omega
    · show 200000 ≤ z1.y.st.cap
      rw [h4.cap]
      exact h.cap
def DAllTo (w0 w : World) (B : DspB) (z : DspG) (D : List RcM) (e : Ending) (w' : World) : Prop := ∃ done rest z', toDo z = done ++ rest ∧ e = .returned (.tuple #[.int .i64 (done.length : Int), .int .i64 0]) ∧ (∀ r ∈ done, (r.id : Int) < z.x.m.synced) ∧ AllE z rest ∧ DspA w0 w' B z' (D ++ done.flatMap mdL) ∧ QTo w (z.own B) w' (z'.own B) ∧ z'.x = z.x ∧ toDo z' = rest
set_option maxHeartbeats 4000000 in
set_option maxRecDepth 100000 in
theorem dall_any {w0 w : World} {B : DspB} {z : DspG} {D : List RcM} (h : DspA w0 w B z D) : Calls Tryz.prog 10 #[.pointer (some ⟨B.db, 0, none⟩)] w (DAllTo w0 w B z D) := by
  have hmany := h.many
  have H0 : Hid (DspA w0 w B z (D ++ ([] : List RcM).flatMap mdL)) := Lib.hid (by simpa using h)
  obtain ⟨N, hN⟩ : ∃ N, N = (toDo z).length := ⟨_, rfl⟩
  have HN := Lib.hid hN
  have hN1 : N ≤ 1000 := by omega
  clear h hmany hN
  go_enter Tryz.func10, Tryz.ntmps10
  go_wp2_with fail
  go_loopw [4] (fun n wr => ∃ done rest z', Hid (toDo z = done ++ rest) ∧ n = .int .i64 (done.length : Int) ∧ Hid (∀ r ∈ done, (r.id : Int) < z.x.m.synced) ∧ Hid (DspA w0 wr B z' (D ++ done.flatMap mdL)) ∧ Hid (QTo w (z.own B) wr (z'.own B)) ∧ Hid (z'.x = z.x) ∧ Hid (toDo z' = rest)) (fun n _ => N - (intOf n).toNat)
  case atStart => exact ⟨[], toDo z, z, Lib.hid rfl, rfl, Lib.hid (fun r hr => by cases hr), H0, Lib.hid (QTo.refl _ _), Lib.hid rfl, Lib.hid rfl⟩
  case round =>
    obtain ⟨done, rest, z', HT, rfl, HS, HA, HQ, HX, HR⟩ := hrel
    have HC := Lib.hid (dnext_any HA.out)
    obtain ⟨k, hk⟩ : ∃ k : Nat, k = done.length := ⟨_, rfl⟩
    rw [← hk]
    have HK := Lib.hid hk
    have hkN : k ≤ N := by rw [hk, HN.out, HT.out, List.length_append]; omega
    clear hk
    go_wp2_with fail
    refine HC.out.mono ?_
    rintro e w1 (⟨h1, rfl, z2, h2, h3, h4, h5⟩ | ⟨r, rest2, z2, h1, h2, rfl, h3, h4, h5, h6⟩)
    · have HE : Hid (DAllTo w0 w B z D (.returned (.tuple #[.int .i64 (k : Int), .int .i64 0])) w1) := Lib.hid ⟨done, rest, z2, HT.out, by rw [HK.out], HS.out, by
        rw [HR.out] at h1
        unfold AllE at h1 ⊢
        rw [HX.out] at h1
        exact h1, h2, HQ.out.trans h3, h4.trans HX.out, h5.trans HR.out⟩
      clear h1 h2 h3 h4 h5
      go_wp2_with fail
      go_ret2
      exact HE.out
    · have hrest : rest = r :: rest2 := by rw [← HR.out, h1]
      have HT2 : Hid (toDo z = (done ++ [r]) ++ rest2) := Lib.hid (by rw [HT.out, hrest]; simp)
      have HS2 : Hid (∀ x ∈ done ++ [r], (x.id : Int) < z.x.m.synced) := Lib.hid (fun x hx => by
        rcases List.mem_append.1 hx with a | a
        · exact HS.out x a
        · rw [List.mem_singleton] at a
          rw [a, ← HX.out]
          exact h2)
      have HA2 : Hid (DspA w0 w1 B z2 (D ++ (done ++ [r]).flatMap mdL)) := Lib.hid (by
        rw [List.flatMap_append, ← List.append_assoc]
        simpa using h3)
      have HQ2 := Lib.hid (HQ.out.trans h4)
      have HX2 := Lib.hid (h5.trans HX.out)
      have HR2 := Lib.hid h6
      have hlen : (done ++ [r]).length = k + 1 := by rw [List.length_append, ← HK.out]; rfl
      have hkN2 : k + 1 ≤ N := by
        have e := congrArg List.length HT2.out
        rw [List.length_append, hlen] at e
        rw [HN.out, e]
        exact Nat.le_add_right _ _
      have HL := Lib.hid hlen
      clear h1 h2 h3 h4 h5 h6 hrest hlen
      go_wp2_with fail
      exact ⟨⟨done ++ [r], rest2, z2, HT2, by rw [HL.out]; go_num, HS2, HA2, HQ2, HX2, HR2⟩, by simp [intOf]; omega⟩
theorem nxt_cur {w0 w : World} {B : DspB} {z : DspG} (h : DspI w0 w B z) : nxt (recsI (1024 * z.x.i0) z.x.l) z.c = toDo z := by
  unfold toDo nxt
  refine List.filter_congr fun r hr => ?_
  obtain ⟨_, _, _, _, _, _, h1, _⟩ := recsI_put h.tp.la' r hr
  unfold curS
  have : (z.c ≤ r.id) = (max z.c (1024 * z.x.i0) ≤ r.id) := by apply propext; omega
  simp only [this]
theorem left_ids {w0 w : World} {B : DspB} {z : DspG} (h : DspI w0 w B z) : z.x.t.ids.drop (lowN z.x.t.ids ((z.c : Nat) : Int)) = (toDo z).map fun r => (r.id : Int) := by
  rw [h.tp.tn.ids]
  exact (nxt_ids h.tp.la' z.c).trans (by rw [nxt_cur h])
theorem ids_bin {W : World} {b : Nat} {v : Value} {l : List Int} (h : W.ownsRow b 3 1 v l.length (l.map (Value.int .i64))) (hs : l.Pairwise (· ≤ ·)) (hn : l.length ≤ 1000000) (x : Int) :
    Calls Tryz.prog 32 #[v, .int .i64 x] W fun e w' => e = .returned (.tuple #[.int .i64 (l.countP (· < x) : Nat), .bool (l.contains x)]) ∧ Chg (fun _ => False) W w' := by
  rcases h.2 with ⟨rfl, h0⟩ | ⟨g, cap, cur, rfl, hbase, hb, h1, h2, h3, h4⟩
  · obtain rfl : l = [] := List.length_eq_zero_iff.1 h0
    exact (Any.slices_BinarySearch_int_empty Tryz.laysNm225 none 0 x W).mono fun e w' h => ⟨h.1, h.2 ▸ Chg.refl _ _⟩
  · have hc : ∀ j, j < l.length → W.cell? ⟨g, 0 + j, none⟩ = some (.int .i64 (l.getD j 0)) := fun j hj => by
      have e1 : (cur.toList.take (l.length * 1))[j]? = (l.map (Value.int .i64))[j]? := by rw [h4]
      rw [List.getElem?_take, if_pos (by omega), Array.getElem?_toList, List.getElem?_map, List.getElem?_eq_getElem hj] at e1
      rw [Nat.zero_add, List.getD_eq_getElem?_getD, List.getElem?_eq_getElem hj]
      simp only [World.cell?, hb]
      exact e1
    refine (Tryz.slices_BinarySearch_int g 0 l.length cap l x W (Nat.le_refl _) (by omega) hc (by rw [List.take_length]; exact hs)).mono ?_
    rintro e w' ⟨rfl, q, rfl⟩
    rw [List.take_length]
    exact ⟨rfl, chg_drewN W q⟩
set_option maxHeartbeats 4000000 in
set_option maxRecDepth 100000 in
theorem dleft_any {w0 w : World} {B : DspB} {z : DspG} (h : DspI w0 w B z) (hl : z.x.l.length ≤ 1000000) :
    Calls Tryz.prog 12 #[.pointer (some ⟨B.db, 0, none⟩)] w fun e w' => e = .returned (.int .i64 (((toDo z).map fun r => (r.id : Int)).countP (· < z.x.m.synced) : Nat)) ∧ Chg (fun _ => False) w w' := by
  obtain ⟨c0, d1, d2, c3, d4, d5, fz⟩ := h.cells
  have hlen : ∀ {W : World}, DspI w0 W B z → z.x.t.ids.length ≤ 1000000 := fun hi => by
    have e2 : z.x.t.ids.length = (notesI (1024 * z.x.i0) z.x.l).length := by
      have := congrArg List.length hi.tp.tn.ids
      rw [List.length_map] at this
      exact this
    have := notesI_len (1024 * z.x.i0) z.x.l
    omega
  obtain ⟨L, hL⟩ : ∃ L, L = (toDo z).map fun r => (r.id : Int) := ⟨_, rfl⟩
  have hLs : L.Pairwise (· ≤ ·) := by
    rw [hL, ← left_ids h]
    exact (le_of_lt' h.tp.sorted).sublist (List.drop_sublist _ _)
  have hLl : L.length ≤ 1000000 := by
    rw [hL, ← left_ids h, List.length_drop]
    have := hlen h
    omega
  have HI : Hid (∀ W, Chg (fun _ => False) w W → Calls Tryz.prog 33 #[.pointer (some ⟨B.tb, 0, none⟩), .int .i64 (z.c : Int)] W fun e w' => ∃ v, e = .returned v ∧ w'.ownsRow W.heap.size 3 1 v L.length (L.map (Value.int .i64)) ∧ Chg (fun _ => False) w w') := Lib.hid (fun W hW => by
    have hi := h.new hW
    refine (tids_any hi.tp.tg.tape (le_of_lt' hi.tp.sorted) (hlen hi) ((z.c : Nat) : Int)).mono ?_
    rintro e w' ⟨v, rfl, ho, hb⟩
    rw [left_ids hi, ← hL] at ho
    exact ⟨v, rfl, ho, hW.trans (Chg.of_below hb) (fun _ _ x => x)⟩)
  have HS : Hid (∀ W, Chg (fun _ => False) w W → Calls Tryz.prog 29 #[.pointer (some ⟨B.tb, 0, none⟩)] W fun e w' => e = .returned (.int .i64 z.x.m.synced) ∧ W = w') := Lib.hid (fun W hW => tsynced_any (h.new hW).tp.tg)
  have HB : Hid (∀ (W : World) (b : Nat) (v : Value), W.ownsRow b 3 1 v L.length (L.map (Value.int .i64)) → Calls Tryz.prog 32 #[v, .int .i64 z.x.m.synced] W fun e w' => e = .returned (.tuple #[.int .i64 (L.countP (· < z.x.m.synced) : Nat), .bool (L.contains z.x.m.synced)]) ∧ Chg (fun _ => False) W w') := Lib.hid (fun W b v hv => ids_bin hv hLs hLl _)
  rw [← hL]
  obtain ⟨sy, hsy⟩ : ∃ x, x = z.x.m.synced := ⟨_, rfl⟩
  rw [← hsy] at HS HB ⊢
  obtain ⟨cn, hcn⟩ : ∃ x : Int, x = (L.countP (· < sy) : Nat) := ⟨_, rfl⟩
  obtain ⟨cb, hcb⟩ : ∃ x : Bool, x = L.contains sy := ⟨_, rfl⟩
  rw [← hcn, ← hcb] at HB
  rw [← hcn]
  obtain ⟨zc, hzc⟩ : ∃ x : Int, x = (z.c : Int) := ⟨_, rfl⟩
  rw [← hzc] at HI c3
  obtain ⟨db, tb, qb, xb⟩ := B
  dsimp only at *
  clear d1 d2 d4 d5 fz h hlen hL hLs hLl hl hsy hcn hcb hzc
  go_enter Tryz.func12, Tryz.ntmps12
  go_upto_region 3 with fail
  go_region_held3 (fun w' => w'.cell? ⟨db, 0, none⟩ = some (.pointer (some ⟨tb, 0, none⟩)) ∧ w'.cell? ⟨db, 3, none⟩ = some (.int .i64 zc))
    (first | exact ⟨c0, c3⟩ | go_keep)
    (first
      | (go_at_call 33
         refine (HI.out _ ?_).mono ?_
         · repeat (first | exact Chg.refl _ _ | with_reducible refine Chg.drew ?_ | with_reducible refine Chg.drewN ?_ _)
         rintro e w3 ⟨v3, rfl, ho, hcc⟩
         have c0 := hcc.cell c0 (fun x => x)
         have c3 := hcc.cell c3 (fun x => x)
         have HO := Lib.hid ho
         have HCC := Lib.hid hcc
         clear hcc ho)
      | (go_at_call 29
         refine (HS.out _ ?_).mono ?_
         · repeat (first | exact Chg.refl _ _ | exact HCC.out | with_reducible refine Chg.drew ?_ | with_reducible refine Chg.drewN ?_ _)
         rintro e w4 ⟨rfl, rfl⟩)
      | (go_at_call 32
         refine (HB.out _ _ _ HO.out).mono ?_
         rintro e w5 ⟨rfl, hc5⟩
         have HC5 := Lib.hid (HCC.out.trans hc5 (fun _ _ x => x))
         have c0 := hc5.cell c0 (fun x => x)
         have c3 := hc5.cell c3 (fun x => x)
         clear hc5))
  all_goals
    go_wp2_with fail
    go_ret
    exact ⟨rfl, by repeat (first | exact HC5.out | with_reducible refine Chg.drew ?_ | with_reducible refine Chg.drewN ?_ _)⟩
theorem TapeG.base {w0 w1 w : World} {tb : Nat} {t : TapeM} {g : Gh} {st : St} {m : RowM} (h : TapeG w1 w tb t g st m) (hc : Chg (fun _ => False) w0 w1) (ht : Tab10 w0) : TapeG w0 w tb t g st m := by
  have hs := hc.size
  refine ⟨⟨h.row.disk, h.row.row, h.row.out, hc.trans h.row.chg (fun _ _ x => x), fun k hk => Nat.le_trans hs (h.row.low k hk), Nat.le_trans hs h.row.lowb, ht⟩, ⟨h.tape.at_, h.tape.tab, h.tape.map, ?_, h.tape.apart, fun q hq => Nat.le_trans hs (h.tape.low q hq)⟩, h.out⟩
  rcases h.tape.own with a | ⟨g1, o, cap, a1, a2, a3⟩
  · exact .inl a
  · exact .inr ⟨g1, o, cap, a1, Nat.le_trans hs a2, a3⟩
theorem tapeI_new {w0 w : World} {tb : Nat} {t : TapeM} {g : Gh} {st : St} {m : RowM} (h : TapeG w0 w tb t g st m) (h1 : t.ids = []) (h2 : t.M = []) (hh : m.head = tH) (hk : RowC 0 m st 1024 0 0 []) : TapeI w0 w tb t g st m 0 0 0 [] :=
  ⟨h, hk, hh, trivial, ⟨h1, fun x hx => (by cases hx), fun k _ => (by rw [h2]; rfl), fun x hx => (by cases hx), by rw [h2]; exact Nat.le_refl _⟩⟩
theorem kEnd_names (c : Int) (h0 : 24 ≤ c) (h1 : c ≤ 16777216) : (kEnd c).fs.map (·.1) = [xL, xS] := by
  have k0 : Calm 0 (newSt c) := ⟨Good.new c, rfl, rfl⟩
  have f0 : (newSt c).find xL = none := rfl
  have e1 := k0.createS f0
  have k1 := k0.create f0
  have f1 : (createS (newSt c) xL).find xS = none := by rw [e1]; rfl
  have e2 := k1.createS f1
  have k2 := k1.create f1
  have s2 : kSt c 2 = createS (createS (newSt c) xL) xS := rfl
  have g2 : (kSt c 2).find xS = some emptyF := by rw [s2, e2, e1]; rfl
  have hc2 : (kSt c 2).cap = c.toNat := by rw [s2, e2, e1]; show (min (max c 0) 16777216).toNat = _; omega
  have hz2 : (kSt c 2).size = 0 := by rw [s2, e2, e1]; rfl
  have hzz : zeros24.size = 24 := by decide
  have hmo : more emptyF 0 zeros24.size = 24 := by decide
  obtain ⟨w1, w2, w3⟩ := calm_writeA (a := 0) (s := zeros24) (show Calm 2 (kSt c 2) from k2) g2 (Nat.zero_le _) (by rw [hmo]; omega) (by rw [hzz]; decide)
  unfold kEnd
  rw [w2]
  show (setF (kSt c 2).fs _ _).map _ = _
  rw [names_setF, s2, e2, e1]
  rfl
def DMadeTo (w : World) (e : Ending) (w' : World) : Prop := ∃ B z, e = .returned (.tuple #[.agg #[.pointer (some ⟨B.tb, 0, none⟩), .pointer (some ⟨B.qb, 0, none⟩), .pointer (some ⟨B.xb, 0, none⟩), .pointer (some ⟨B.db, 0, none⟩)], .bool true]) ∧ DspA w w' B z [] ∧ z.x.l = [] ∧ z.x.i0 = 0 ∧ z.x.m.synced = 0 ∧ z.x.n = 0 ∧ z.x.st.size = 0 ∧ z.x.st.cap = 1048576 ∧ z.c = 0
theorem made_all {w wc w3 w4 w5 w6 : World} {tb qb xb : Nat} {gc : Gh} {t : TapeM} {g : Gh} {st : St} {m : RowM} {gq gx : Gh} (ht : Tab10 w) (hc0 : Chg (fun _ => False) w wc)
    (hgc : ∀ q ∈ gc.fp, w.heap.size ≤ q ∧ q < wc.heap.size) (hc3 : Chg (fun _ => False) wc w3)
    (hT : TapeG wc w3 tb t g st m) (t1 : t.ids = []) (t2 : t.M = []) (t3 : m.head = tH) (t4 : m.synced = 0) (t5 : RowC 0 m st 1024 0 0 []) (t6 : st.cap = 1048576) (t7 : st.size = 0)
    (hq : QsI w w4 qb none gq (newSt 4194304) 0 []) (tq : Gh.To w3 gc gq w4) (hqb : w3.heap.size ≤ qb)
    (hx : KxI w w5 xb gx (kEnd 4194304) 3 []) (tx : Gh.To w4 gq gx w5) (hxb : w4.heap.size ≤ xb)
    (h6 : w6 = w5.alloc (.cells (dspC ⟨0, tb, qb, xb⟩ (1024 * 0) 0 0) 77)) :
    ∃ z, TpI w w5 tb z.x ∧ (∀ q, z.own ⟨w5.heap.size, tb, qb, xb⟩ q → q ∈ gc.fp ∨ wc.heap.size ≤ q) ∧ DspA w w6 ⟨w5.heap.size, tb, qb, xb⟩ z [] ∧ z.x.l = [] ∧ z.x.i0 = 0 ∧ z.x.m.synced = 0 ∧ z.x.n = 0 ∧ z.x.st.size = 0 ∧ z.x.st.cap = 1048576 ∧ z.c = 0 := by
  have hT0 := hT.base hc0 ht
  have hown : ∀ q, (q ∈ t.foot tb ∨ q = t.rb ∨ q ∈ g.fp) → wc.heap.size ≤ q ∧ q < w3.heap.size := fun q hq => by
    rcases hq with a | a | a
    · exact ⟨hT.tape.low q a, hT.tape.lt q a⟩
    · rw [a]; exact ⟨hT.row.lowb, hT.row.row.lt⟩
    · exact ⟨hT.row.low q a, hT.row.disk.lt q a⟩
  have gq1 : ∀ q ∈ gq.fp, q ∈ gc.fp ∨ w3.heap.size ≤ q := tq.fp
  have gx1 : ∀ q ∈ gx.fp, q ∈ gc.fp ∨ w3.heap.size ≤ q := fun q hq => by
    rcases tx.fp q hq with a | a
    · exact gq1 q a
    · have := tq.chg.size; exact .inr (by omega)
  have hT4 : TapeI w w4 tb t g st m 0 0 0 [] := TpI.away (x := ⟨t, g, st, m, 0, 0, 0, []⟩) (tapeI_new hT0 t1 t2 t3 t5) tq.chg (fun q hq hx => by have h1 := hown q hq; have h2 := hgc q hx; omega) (fun q hq => (hgc q hq).1)
  have hT5 : TapeI w w5 tb t g st m 0 0 0 [] := TpI.away (x := ⟨t, g, st, m, 0, 0, 0, []⟩) hT4 tx.chg (fun q hq hx => by
    have h1 := hown q hq
    rcases gq1 q hx with a | a
    · have h2 := hgc q a; omega
    · omega) (fun q hqq => hq.q.disk.low q hqq)
  have hqlt : qb < w4.heap.size := hq.q.lt qb (mem_qfoot_q ..)
  have hqo : qb ∉ gq.fp := hq.q.out qb (mem_qfoot_q ..)
  have hqx : qb ∉ gx.fp := fun hx2 => by
    rcases tx.fp qb hx2 with a | a
    · exact hqo a
    · omega
  have hnames := kEnd_names 4194304 (by decide) (by decide)
  have hfs : ∀ p ∈ (kEnd 4194304).fs, p.1 = xL ∨ p.1 = xS := fun p hp => by
    have : p.1 ∈ (kEnd 4194304).fs.map (·.1) := List.mem_map_of_mem (f := fun p : ByteArray × FileM => p.1) hp
    rw [hnames] at this
    simpa using this
  have hQ5 : QsI w w5 qb none gx (kEnd 4194304) 3 [] := qs_empty (by have := hc0.size; have := hc3.size; omega) (Nat.lt_of_lt_of_le hqlt tx.chg.size) hx.disk ht hx.calm (fun p hp => by
    rcases hfs p hp with e | e <;> rw [e] <;> decide) (by rw [tx.d]; exact tx.chg.heap hq.q.at_ hqo) hqx (fun f hf => by
    rcases hfs f hf with e | e <;> rw [e] <;> decide)
  have hxlt := hx.lt
  obtain ⟨_, _, _, _, _, _, hz, hcp, _⟩ := kSt_facts 4194304 (by decide) (by decide)
  have hY : QxI w w5 qb xb ⟨none, gx, kEnd 4194304, 3, [], []⟩ := ⟨hQ5, hx, fun hx2 => by
    have : xb = qb := by simpa [qfoot] using hx2
    omega⟩
  have hyo : ∀ q, QxG.own qb xb ⟨none, gx, kEnd 4194304, 3, [], []⟩ q → q ∈ gc.fp ∨ w3.heap.size ≤ q := fun q hq => by
    have hs4 := tq.chg.size
    rcases hq with (a | a) | a
    · have : q = qb := by simpa [qfoot] using a
      exact .inr (by omega)
    · exact gx1 q a
    · exact .inr (by omega)
  have hc6 : Chg (fun _ => False) w5 w6 := h6 ▸ Chg.alloc _ (Chg.refl _ _) _
  have hs5 := tx.chg.size
  have hs4 := tq.chg.size
  have hs3 := hc3.size
  have hs0 := hc0.size
  refine ⟨⟨⟨t, g, st, m, 0, 0, 0, []⟩, ⟨none, gx, kEnd 4194304, 3, [], []⟩, 0, 0, 0⟩, hT5, fun q hq => ?_, ⟨⟨?_, ?_, (TpI.new (x := ⟨t, g, st, m, 0, 0, 0, []⟩) hT5 hc6), hY.new hc6, fun q h1 h2 => ?_, fun h1 => ?_, fun h1 => ?_⟩, ⟨QRel.nil, rfl, .inl rfl, fun p hp => (by cases hp), ?_, Nat.le_refl _, fun r hr => (by cases hr)⟩, ?_, Nat.zero_le _, Nat.zero_le _, ?_, ?_⟩, rfl, rfl, t4, rfl, t7, t6, rfl⟩
  · rcases hq with a | a | a
    · right
      dsimp only at a
      omega
    · exact .inr (hown q a).1
    · exact (hyo q a).imp id (fun b => by omega)
  · show w6.heap[w5.heap.size]? = _
    rw [h6]
    exact heap_alloc_new w5 _
  · show w.heap.size ≤ w5.heap.size
    omega
  · have a := hown q h1
    rcases hyo q h2 with b | b
    · have := hgc q b; omega
    · omega
  · have a := hown _ h1
    show False
    dsimp only at a
    omega
  · have := hY.lt _ h1
    dsimp only at this
    omega
  · show (kEnd 4194304).size ≤ _
    rw [hz]
    decide
  · show 1024 * 0 + ([] : List UInt8).length ≤ _
    decide
  · show 0 + (toDo _).length ≤ 1000
    unfold toDo
    show 0 + (nxt (recsI _ []) _).length ≤ _
    simp [recsI, nxt]
  · show 200000 ≤ (kEnd 4194304).cap
    rw [hcp]
    decide
theorem newSt_calm (c : Int) : Calm 0 (newSt c) := ⟨Good.new c, rfl, rfl⟩
set_option maxHeartbeats 4000000 in
set_option maxRecDepth 100000 in
theorem dmade_any (w : World) (ht : Tab10 w) : Calls Tryz.prog 7 #[] w (DMadeTo w) := by
  obtain ⟨W0, hW0⟩ : ∃ W, W = w.alloc (.cells #[.pointer none, .pointer none, .pointer none, .pointer none] 29) := ⟨_, rfl⟩
  have hb0 : Below w.heap.size w W0 := hW0 ▸ (Below.refl _ _).alloc (Nat.le_refl _) _
  have hr0 : W0.heap[w.heap.size]? = some (.cells #[.pointer none, .pointer none, .pointer none, .pointer none] 29 (0, 0)) := hW0 ▸ heap_alloc_new w _
  have hl0 : w.heap.size < W0.heap.size := (Array.getElem?_eq_some_iff.1 hr0).1
  have HW0 := Lib.hid hW0
  have HTB := Lib.hid ht
  have HB0 : Hid (Chg (fun _ => False) w W0) := Lib.hid (Chg.of_below hb0)
  have HR0 := Lib.hid hr0
  have HL0 := Lib.hid hl0
  have HN1 := Lib.hid (new_any 4194304 W0)
  clear hb0 ht hW0 hr0 hl0
  go_enter Tryz.func7, Tryz.ntmps7
  go_upto_region 1 with fail
  rw [← HW0.out]
  go_wp2_with fail
  refine HN1.out.mono ?_
  rintro e w1 ⟨rfl, hd1, hb1⟩
  have HC1 : Hid (Chg (fun _ => False) w w1) := Lib.hid (HB0.out.trans (Chg.of_below hb1) (fun _ _ x => x))
  have HD1 := Lib.hid hd1
  have HB1 := Lib.hid hb1
  have HN2 := Lib.hid (new_any 1048576 w1)
  clear hd1 hb1
  go_wp2_with fail
  refine HN2.out.mono ?_
  rintro e w2 ⟨rfl, hd2, hb2⟩
  have hg2 : DiskG w1 w2 w1.heap.size ⟨w1.heap.size, none, []⟩ (newSt 1048576) := ⟨hd2, rfl, Chg.of_below hb2, fun k hk => by simp [Gh.fp] at hk; omega⟩
  have HO := Lib.hid (topen_new hg2 (tab_chg HTB.out HC1.out))
  have HB2 := Lib.hid hb2
  clear hd2 hb2 hg2
  go_wp2_with fail
  refine HO.out.mono ?_
  rintro e w3 ⟨tb, t, g, m, st, rfl, x1, x2, x3, x4, x5, x6, x7, x8, x9, x10, x11, x12⟩
  have hsz := new_size x9 x7 x12
  have hc3 : Chg (fun _ => False) w1 w3 := (Chg.of_below HB2.out : Chg (fun _ => False) w1 w2).trans x11 (fun i hi hx => by simp [Gh.fp] at hx; omega)
  have hw3 := HC1.out.trans hc3 (fun _ _ x => x)
  have hgc : DiskG w w3 W0.heap.size ⟨W0.heap.size, none, []⟩ (newSt 4194304) := ⟨HD1.out.new hc3, rfl, hw3, fun k hk => by simp [Gh.fp] at hk; have := HL0.out; omega⟩
  have HQ := Lib.hid (qnew_any hgc HTB.out (newSt_calm 4194304) (Nat.zero_le _) (fun p hp => by cases hp))
  have HX := Lib.hid (And.intro x2 (And.intro x4 (And.intro x5 (And.intro x7 (And.intro x8 (And.intro x9 (And.intro x10 hsz)))))))
  have HC3 := Lib.hid hc3
  have HW3 := Lib.hid hw3
  have hx1 : w2.heap.size ≤ tb := x1
  clear x1 x2 x3 x4 x5 x6 x7 x8 x9 x10 x11 x12 hsz hc3 hw3 hgc
  go_wp2_with fail
  refine HQ.out.mono ?_
  rintro e w4 ⟨qb, gq, rfl, hqb, hqi, hqt⟩
  rw [qNewS_new] at hqi
  have hq4 : DiskG w w4 W0.heap.size gq (newSt 4194304) := ⟨hqi.q.disk.disk, hqt.d, hqi.q.disk.chg, hqi.q.disk.low⟩
  have HK := Lib.hid (knew_any (w0 := w) (g := gq) (d := W0.heap.size) 4194304 (by decide) (by decide) hq4)
  have HQI := Lib.hid (And.intro hqi (And.intro hqt hqb))
  clear hqi hqt hqb hq4
  go_wp2_with fail
  refine HK.out.mono ?_
  rintro e w5 ⟨xb, gx, rfl, hxb, hxi, hxt⟩
  have hgcf : ∀ q ∈ (⟨W0.heap.size, none, []⟩ : Gh).fp, w.heap.size ≤ q ∧ q < w1.heap.size := fun q hq => by
    simp [Gh.fp] at hq
    have h1 := HD1.out.lt q (by simp [Gh.fp]; exact hq)
    have := HL0.out
    exact ⟨by omega, h1⟩
  obtain ⟨z, hz⟩ := made_all HTB.out HC1.out hgcf HC3.out HX.out.1 HX.out.2.1 HX.out.2.2.1 HX.out.2.2.2.1 HX.out.2.2.2.2.1 HX.out.2.2.2.2.2.1 (HX.out.2.2.2.2.2.2.1.trans rfl) HX.out.2.2.2.2.2.2.2 HQI.out.1 HQI.out.2.1 HQI.out.2.2 hxi hxt hxb rfl
  obtain ⟨hz1, hzo, hz2, hz3, hz4, hz5, hz6, hz7, hz8, hz9⟩ := hz
  have hzo2 : ∀ q, z.own ⟨w5.heap.size, tb, qb, xb⟩ q → q ≠ w.heap.size := fun q hq hx => by
    have h1 := HL0.out
    have h2 := HB1.out.size
    rcases hzo q hq with a | a
    · simp [Gh.fp] at a; omega
    · omega
  have HZO := Lib.hid hzo2
  have hnew := dnew_ok hz1 qb xb
  rw [hz4] at hnew
  have hres : w5.heap[w.heap.size]? = some (.cells #[.pointer none, .pointer none, .pointer none, .pointer none] 29 (0, 0)) := by
    have h3 : w3.heap[w.heap.size]? = _ := (HC3.out.heap (HB1.out.block _ HL0.out ▸ HR0.out) (fun x => x))
    have hno : ∀ q, q ∈ (⟨W0.heap.size, none, []⟩ : Gh).fp → q ≠ w.heap.size := fun q hq => by simp [Gh.fp] at hq; have := HL0.out; omega
    have h3s : w.heap.size < w3.heap.size := (Array.getElem?_eq_some_iff.1 h3).1
    have h4 : w4.heap[w.heap.size]? = _ := HQI.out.2.1.chg.heap h3 (fun hx => hno _ hx rfl)
    exact hxt.chg.heap h4 (fun hx => by
      rcases HQI.out.2.1.fp _ hx with a | a
      · exact hno _ a rfl
      · omega)
  have HRES := Lib.hid hres
  have HNEW := Lib.hid hnew
  have HZ := Lib.hid (And.intro hz2 (And.intro hz3 (And.intro hz4 (And.intro hz5 (And.intro hz6 (And.intro hz7 (And.intro hz8 hz9)))))))
  clear hzo hzo2 hz1 hz2 hz3 hz4 hz5 hz6 hz7 hz8 hz9 hnew hres hgcf hxb hxi hxt
  go_wp2_with fail
  refine HNEW.out.mono ?_
  rintro e w6 ⟨rfl, hw6⟩
  have hc6 : Chg (fun _ => False) w5 w6 := hw6 ▸ Chg.alloc _ (Chg.refl _ _) _
  have hr6 := hc6.heap HRES.out (fun x => x)
  have y0 : w6.cell? ⟨w.heap.size, 0, none⟩ = some (.pointer none) := by simp [World.cell?, hr6]
  have y1 : w6.cell? ⟨w.heap.size, 1, none⟩ = some (.pointer none) := by simp [World.cell?, hr6]
  have y2 : w6.cell? ⟨w.heap.size, 2, none⟩ = some (.pointer none) := by simp [World.cell?, hr6]
  have y3 : w6.cell? ⟨w.heap.size, 3, none⟩ = some (.pointer none) := by simp [World.cell?, hr6]
  have yf : ∀ i, w6.frozen? ⟨w.heap.size, i, none⟩ = false := fun i => by simp [World.frozen?, hr6]
  rw [← hw6] at HZ
  have HR6 := Lib.hid hr6
  have HW6 := Lib.hid hw6
  clear hr6 hc6 hw6
  go_wp2_with fail
  obtain ⟨W7, hW7⟩ : ∃ W, W = (((w6.setCell ⟨w.heap.size, 0, none⟩ (.pointer (some ⟨tb, 0, none⟩))).setCell ⟨w.heap.size, 1, none⟩ (.pointer (some ⟨qb, 0, none⟩))).setCell ⟨w.heap.size, 2, none⟩ (.pointer (some ⟨xb, 0, none⟩))).setCell ⟨w.heap.size, 3, none⟩ (.pointer (some ⟨w5.heap.size, 0, none⟩)) := ⟨_, rfl⟩
  have hs : ∀ (W : World) (i : Nat) (v : Value), Chg (fun q => q = w.heap.size) W (W.setCell ⟨w.heap.size, i, none⟩ v) := fun W i v => Chg.setCell (S := fun q => q = w.heap.size) (p := ⟨w.heap.size, i, none⟩) (Chg.refl _ _) (fun _ => rfl) _
  have hc7 : Chg (fun q => q = w.heap.size) w6 W7 := hW7 ▸ (((hs w6 0 _).trans (hs _ 1 _) (fun _ _ x => x)).trans (hs _ 2 _) (fun _ _ x => x)).trans (hs _ 3 _) (fun _ _ x => x)
  have hr7 : W7.heap[w.heap.size]? = some (.cells #[.pointer (some ⟨tb, 0, none⟩), .pointer (some ⟨qb, 0, none⟩), .pointer (some ⟨xb, 0, none⟩), .pointer (some ⟨w5.heap.size, 0, none⟩)] 29 (0, 0)) := by
    rw [hW7]
    exact heap_setCell_same _ w.heap.size 3 _ _ _ (heap_setCell_same _ w.heap.size 2 _ _ _ (heap_setCell_same _ w.heap.size 1 _ _ _ (heap_setCell_same _ w.heap.size 0 _ _ _ HR6.out)))
  have e0 : W7.cell? ⟨w.heap.size, 0, none⟩ = some (.pointer (some ⟨tb, 0, none⟩)) := by simp [World.cell?, hr7]
  have e1 : W7.cell? ⟨w.heap.size, 1, none⟩ = some (.pointer (some ⟨qb, 0, none⟩)) := by simp [World.cell?, hr7]
  have e2 : W7.cell? ⟨w.heap.size, 2, none⟩ = some (.pointer (some ⟨xb, 0, none⟩)) := by simp [World.cell?, hr7]
  have e3 : W7.cell? ⟨w.heap.size, 3, none⟩ = some (.pointer (some ⟨w5.heap.size, 0, none⟩)) := by simp [World.cell?, hr7]
  have hA := HZ.out.1
  have hA7 : DspA w W7 ⟨w5.heap.size, tb, qb, xb⟩ z [] := { hA with i := hA.i.away hc7 (fun q hq hx => HZO.out q hq hx) (fun q hx => Nat.le_of_eq hx.symm) }
  have HA7 := Lib.hid hA7
  rw [← hW7]
  refine bodyPost_ret (v := .tuple #[.agg #[.pointer (some ⟨tb, 0, none⟩), .pointer (some ⟨qb, 0, none⟩), .pointer (some ⟨xb, 0, none⟩), .pointer (some ⟨w5.heap.size, 0, none⟩)], .bool true]) ?_ rfl ?_
  · clear hW7 hc7 hr7 hA hA7 y0 y1 y2 y3 yf hs
    simp [results, Tryz.results7, go_sem, e0, e1, e2, e3]
  · exact ⟨⟨w5.heap.size, tb, qb, xb⟩, z, rfl, HA7.out, HZ.out.2⟩
def RS (z : DspG) : List RcM := recsI (1024 * z.x.i0) z.x.l
structure LwD (w0 w : World) (B : DspB) (z : DspG) (D : List RcM) (k : Nat) : Prop where
  a : DspA w0 w B z D
  all : (RS z).flatMap mdL = D ++ (toDo z).flatMap mdL
  i0 : z.x.i0 = 0
  rl : (RS z).length ≤ k
  ll : z.x.l.length ≤ 2 * k
  n : z.x.n ≤ 4 * k
  ok : (bytesI z.x.l).length % 1024 ≤ 1021
  len : (bytesI z.x.l).length ≤ 1351 * k
theorem LwD.new {w0 w w' : World} {B : DspB} {z : DspG} {D : List RcM} {k : Nat} (h : LwD w0 w B z D k) (hc : Chg (fun _ => False) w w') : LwD w0 w' B z D k := { h with a := h.a.new hc }
theorem LwD.away {w0 w w' : World} {S : Nat → Prop} {B : DspB} {z : DspG} {D : List RcM} {k : Nat} (h : LwD w0 w B z D k) (hc : Chg S w w') (hS : ∀ q, z.own B q → ¬ S q) (hl : ∀ q, S q → w0.heap.size ≤ q) : LwD w0 w' B z D k := { h with a := { h.a with i := h.a.i.away hc hS hl } }
theorem LwD.more {w0 w : World} {B : DspB} {z : DspG} {D : List RcM} {k k' : Nat} (h : LwD w0 w B z D k) (hk : k ≤ k') : LwD w0 w B z D k' :=
  { h with rl := Nat.le_trans h.rl hk, ll := (by have := h.ll; omega), n := (by have := h.n; omega), len := (by have := h.len; omega) }
theorem LwD.chg {w0 w : World} {B : DspB} {z : DspG} {D : List RcM} {k : Nat} (h : LwD w0 w B z D k) : Chg (fun _ => False) w0 w := h.a.i.tp.tg.row.chg
theorem mdL_flat (l : List RcM) : (l.flatMap mdL).length ≤ l.length := by
  induction l with
  | nil => exact Nat.le_refl _
  | cons r l ih =>
    rw [List.flatMap_cons, List.length_append, List.length_cons]
    have := mdL_len r
    omega
theorem toDo_le (z : DspG) : (toDo z).length ≤ (RS z).length := List.length_filter_le _ _
theorem many_of {z : DspG} {D : List RcM} (h : (RS z).flatMap mdL = D ++ (toDo z).flatMap mdL) : D.length + (toDo z).length ≤ 2 * (RS z).length := by
  have e := congrArg List.length h
  rw [List.length_append] at e
  have h1 := mdL_flat (RS z)
  have h2 := toDo_le z
  omega
theorem itemsA_recs (p r : Nat) (M : MsgM) (bs : List UInt8) (hk : M.kind ≠ 0) : recsI p (itemsA r M bs) = [⟨p + (tfill r bs.length).length, bs.length, M⟩] := by
  have hk2 : (M.kind == 0) = false := by simpa using hk
  unfold itemsA
  split
  · rename_i h
    rw [h]
    simp [recsI, hk2]
  · simp [recsI, hk2, fillM]
def AppendTo (w0 w : World) (B : DspB) (z : DspG) (D : List RcM) (k : Nat) (M : MsgM) (e : Ending) (w' : World) : Prop :=
  (∃ er : Int, er ≠ 0 ∧ (er = 1 ∧ (M.kind = 0 ∨ putO M = none) ∨ z.x.st.cap < z.x.st.size + 1351) ∧ e = .returned (.tuple #[.int .i64 0, .int .i64 er]) ∧ Below w.heap.size w w') ∨
  (∃ id len z', e = .returned (.tuple #[.int .i64 ((id : Nat) : Int), .int .i64 0]) ∧ LwD w0 w' B z' D (k + 1) ∧ QTo w (z.own B) w' (z'.own B) ∧ RS z' = RS z ++ [⟨id, len, M⟩] ∧ toDo z' = toDo z ++ [⟨id, len, M⟩] ∧ z'.y = z.y ∧ z'.x.m.synced = z.x.m.synced ∧ id ≤ 1351 * k + 1024 ∧ z'.x.st.cap = z.x.st.cap ∧ (∀ r ∈ RS z, r.id < id))
theorem LwD.append {w0 w : World} {B : DspB} {z : DspG} {D : List RcM} {k : Nat} (h : LwD w0 w B z D k) (hk : k ≤ 200) (M : MsgM) (vk : Value) (hks : Strs w 0 vk M.keys) (hcap : CapOk vk) (hs : Sound M) :
    Calls Tryz.prog 14 #[.pointer (some ⟨B.tb, 0, none⟩), M.val vk] w (AppendTo w0 w B z D k M) := by
  have h1 := h.ll
  have h2 := h.n
  have h3 := h.len
  have h4 := h.i0
  have hnl := notesI_len (1024 * z.x.i0) z.x.l
  have hml := h.a.i.tp.tn.ml
  have hil : z.x.t.ids.length = (notesI (1024 * z.x.i0) z.x.l).length := by
    have := congrArg List.length h.a.i.tp.tn.ids
    rw [List.length_map] at this
    exact this
  rcases app_three h.a.i.tp.tg h.a.i.tp.rc h.a.i.tp.hd M vk hks hcap hs h.ok (by omega) (by omega) (by omega) (by omega) with ⟨er, q1, q2, hA⟩ | ⟨F, S, q1, q2, q3, q4, ⟨bs, p1, p2, p3, p4⟩, hA⟩
  · refine hA.mono ?_
    rintro e w' ⟨rfl, hb⟩
    exact .inl ⟨er, q1, q2, rfl, hb⟩
  · refine hA.mono ?_
    rintro e w' ⟨rfl, ha⟩
    obtain ⟨t', g', m', st', j', a1, a2, a3, a4, a5, a6, a7, a8, a9, a10⟩ := TapeI.app h.a.i.tp h.ok p3 p1 p4 p2 ha
    have hFs : F.size = (tfill (roomT z.x.i0 (bytesI z.x.l)) bs.length).length := by rw [p4, sizeL]
    have hSs : S.size = bs.length := by rw [p2, sizeL]
    have hbl : (bytesI (z.x.l ++ itemsA (roomT z.x.i0 (bytesI z.x.l)) M bs)).length = (bytesI z.x.l).length + F.size + S.size := by
      rw [bytesI_app, itemsA_bytes, List.length_append, List.length_append, hFs, hSs]
      omega
    obtain ⟨d1, d2⟩ := h.a.i.tape (x' := ⟨t', g', st', m', z.x.n + 4, z.x.i0, j', z.x.l ++ itemsA (roomT z.x.i0 (bytesI z.x.l)) M bs⟩) a1 ⟨a6, fun q hq => by
      rcases hq with b | b | b
      · exact (a10 q b).imp .inl id
      · exact .inl (.inr (.inl (b.trans a8)))
      · exact (a7 q b).imp (fun c => .inr (.inr c)) id⟩
    have hrs : recsI (1024 * z.x.i0) (z.x.l ++ itemsA (roomT z.x.i0 (bytesI z.x.l)) M bs) = RS z ++ [⟨1024 * z.x.i0 + (bytesI z.x.l).length + F.size, bs.length, M⟩] := by
      rw [recsI_app, itemsA_recs _ _ _ _ p3, ← hFs]
      rfl
    have hce := h.a.c
    have htd : nxt (RS z ++ [⟨1024 * z.x.i0 + (bytesI z.x.l).length + F.size, bs.length, M⟩]) (curS z) = toDo z ++ [⟨1024 * z.x.i0 + (bytesI z.x.l).length + F.size, bs.length, M⟩] := by
      unfold nxt
      rw [List.filter_append]
      congr 1
      have : curS z ≤ 1024 * z.x.i0 + (bytesI z.x.l).length + F.size := by unfold curS; omega
      simp [this]
    have hil2 : (itemsA (roomT z.x.i0 (bytesI z.x.l)) M bs).length ≤ 2 := by unfold itemsA; split <;> simp
    have hall : (RS z ++ [(⟨1024 * z.x.i0 + (bytesI z.x.l).length + F.size, bs.length, M⟩ : RcM)]).flatMap mdL = D ++ (toDo z ++ [(⟨1024 * z.x.i0 + (bytesI z.x.l).length + F.size, bs.length, M⟩ : RcM)]).flatMap mdL := by
      rw [List.flatMap_append, List.flatMap_append, h.all, List.append_assoc]
    have hrl := h.rl
    refine .inr ⟨_, bs.length, _, rfl, ⟨⟨d1, ⟨h.a.n.rel, h.a.n.kd, h.a.n.bg, h.a.n.ln, h.a.n.size, h.a.n.n, h.a.n.md⟩, ?_, ?_, ?_, ?_, h.a.cap⟩, ?_, h4, ?_, ?_, ?_, ?_, ?_⟩, d2, hrs, ?_, rfl, a3, ?_, a5, ?_⟩
    · show 1024 * z.x.i0 + (bytesI (z.x.l ++ itemsA (roomT z.x.i0 (bytesI z.x.l)) M bs)).length ≤ _
      rw [hbl]
      omega
    · show z.c ≤ 1024 * z.x.i0 + (bytesI (z.x.l ++ itemsA (roomT z.x.i0 (bytesI z.x.l)) M bs)).length
      rw [hbl]
      omega
    · show (z.x.l ++ itemsA (roomT z.x.i0 (bytesI z.x.l)) M bs).length ≤ _
      rw [List.length_append]
      omega
    · show D.length + (nxt (recsI (1024 * z.x.i0) (z.x.l ++ itemsA (roomT z.x.i0 (bytesI z.x.l)) M bs)) (curS z)).length ≤ 1000
      rw [hrs, htd, List.length_append]
      have := many_of h.all
      simp only [List.length_cons, List.length_nil]
      omega
    · show (recsI (1024 * z.x.i0) (z.x.l ++ itemsA (roomT z.x.i0 (bytesI z.x.l)) M bs)).flatMap mdL = D ++ (nxt (recsI (1024 * z.x.i0) (z.x.l ++ itemsA (roomT z.x.i0 (bytesI z.x.l)) M bs)) (curS z)).flatMap mdL
      rw [hrs, htd]
      exact hall
    · show (recsI (1024 * z.x.i0) (z.x.l ++ itemsA (roomT z.x.i0 (bytesI z.x.l)) M bs)).length ≤ _
      rw [hrs, List.length_append]
      simp only [List.length_cons, List.length_nil]
      omega
    · show (z.x.l ++ itemsA (roomT z.x.i0 (bytesI z.x.l)) M bs).length ≤ _
      rw [List.length_append]
      omega
    · show z.x.n + 4 ≤ _
      omega
    · show (bytesI (z.x.l ++ itemsA (roomT z.x.i0 (bytesI z.x.l)) M bs)).length % 1024 ≤ 1021
      rw [hbl]
      exact q4
    · show (bytesI (z.x.l ++ itemsA (roomT z.x.i0 (bytesI z.x.l)) M bs)).length ≤ _
      rw [hbl]
      omega
    · show nxt (recsI (1024 * z.x.i0) (z.x.l ++ itemsA (roomT z.x.i0 (bytesI z.x.l)) M bs)) (curS z) = _
      rw [hrs, htd]
    · rw [h4]
      omega
    · intro r hr
      obtain ⟨_, _, _, _, _, _, _, b1⟩ := recsI_put h.a.i.tp.la' r hr
      obtain ⟨_, _, _, _, b3, _, _, _⟩ := recsI_put h.a.i.tp.la' r hr
      omega
theorem LwD.sync {w0 w : World} {B : DspB} {z : DspG} {D : List RcM} {k : Nat} (h : LwD w0 w B z D k) (hk : k ≤ 200) :
    Calls Tryz.prog 15 #[.pointer (some ⟨B.tb, 0, none⟩)] w fun e w' => e = .returned (.int .i64 0) ∧ ∃ z', LwD w0 w' B z' D k ∧ QTo w (z.own B) w' (z'.own B) ∧ RS z' = RS z ∧ toDo z' = toDo z ∧ z'.y = z.y ∧ z'.x.m.synced = ((1024 * z.x.i0 + (bytesI z.x.l).length : Nat) : Int) ∧ z'.x.l = z.x.l ∧ z'.x.i0 = z.x.i0 ∧ z'.x.st.cap = z.x.st.cap := by
  have h2 := h.n
  refine (tsync_any h.a.i.tp.tg h.a.i.tp.rc (by omega)).mono ?_
  rintro e w' ⟨rfl, g', m', st', a1, a2, a3, a4, a5, a6, a7, a8, a9⟩
  obtain ⟨d1, d2⟩ := h.a.i.tape (x' := ⟨z.x.t, g', st', m', z.x.n, z.x.i0, z.x.j, z.x.l⟩) ⟨a1, a5, a3.trans h.a.i.tp.hd, h.a.i.tp.la, h.a.i.tp.tn⟩ ⟨a7.wide (fun q _ hq => hq.elim (fun b => .inr (.inl b)) (fun b => .inr (.inr b))), fun q hq => by
    rcases hq with b | b | b
    · exact .inl (.inl b)
    · exact .inl (.inr (.inl b))
    · rcases a8 q b with (c | c) | c
      · exact .inl (.inr (.inl c))
      · exact .inl (.inr (.inr c))
      · exact .inr c⟩
  exact ⟨rfl, _, ⟨⟨d1, ⟨h.a.n.rel, h.a.n.kd, h.a.n.bg, h.a.n.ln, h.a.n.size, h.a.n.n, h.a.n.md⟩, h.a.end_, h.a.c, h.a.l, h.a.many, h.a.cap⟩, h.all, h.i0, h.rl, h.ll, h.n, h.ok, h.len⟩, d2, rfl, rfl, rfl, a4, rfl, rfl, a6⟩
theorem LwD.of_x {w0 w w' : World} {B : DspB} {z z' : DspG} {D D' : List RcM} {k : Nat} (h : LwD w0 w B z D k) (ha : DspA w0 w' B z' D') (hx : z'.x = z.x) (hall : (RS z').flatMap mdL = D' ++ (toDo z').flatMap mdL) : LwD w0 w' B z' D' k :=
  ⟨ha, hall, by rw [hx]; exact h.i0, by unfold RS; rw [hx]; exact h.rl, by rw [hx]; exact h.ll, by rw [hx]; exact h.n, by rw [hx]; exact h.ok, by rw [hx]; exact h.len⟩
theorem LwD.step {w0 w : World} {B : DspB} {z : DspG} {D : List RcM} {k : Nat} (h : LwD w0 w B z D k) :
    Calls Tryz.prog 9 #[.pointer (some ⟨B.db, 0, none⟩)] w fun e w' => ∃ b z' D', e = .returned (.tuple #[.bool b, .int .i64 0]) ∧ LwD w0 w' B z' D' k ∧ QTo w (z.own B) w' (z'.own B) ∧ z'.x = z.x ∧ (AllE z (toDo z) → b = false ∧ D' = D ∧ toDo z' = toDo z) ∧ (∀ r rest, toDo z = r :: rest → (r.id : Int) < z.x.m.synced → b = true ∧ D' = D ++ mdL r ∧ toDo z' = rest) := by
  refine (dnext_any h.a).mono ?_
  rintro e w' (⟨h1, rfl, z', h2, h3, h4, h5⟩ | ⟨r, rest, z', h1, h2, rfl, h3, h4, h5, h6⟩)
  · refine ⟨false, z', D, rfl, h.of_x h2 h4 (by unfold RS; rw [h4, h5]; exact h.all), h3, h4, fun _ => ⟨rfl, rfl, h5⟩, fun r rest e1 e2 => ?_⟩
    rcases h1 with a | ⟨r', l, a, b⟩
    · rw [a] at e1; cases e1
    · rw [a] at e1
      injection e1 with e3 _
      subst e3
      omega
  · refine ⟨true, z', _, rfl, h.of_x h3 h5 (by unfold RS; rw [h5, h6]; have := h.all; rw [h1] at this; rw [List.append_assoc]; exact this), h4, h5, fun hx => ?_, fun r' rest' e1 e2 => ?_⟩
    · rcases hx with a | ⟨r', l, a, b⟩
      · rw [a] at h1; cases h1
      · rw [a] at h1
        injection h1 with e3 _
        subst e3
        omega
    · rw [h1] at e1
      injection e1 with e3 e4
      subst e3
      subst e4
      exact ⟨rfl, rfl, h6⟩
theorem LwD.all_ {w0 w : World} {B : DspB} {z : DspG} {D : List RcM} {k : Nat} (h : LwD w0 w B z D k) (hs : ((1024 * z.x.i0 + (bytesI z.x.l).length : Nat) : Int) ≤ z.x.m.synced) :
    Calls Tryz.prog 10 #[.pointer (some ⟨B.db, 0, none⟩)] w fun e w' => ∃ n : Nat, ∃ z', e = .returned (.tuple #[.int .i64 (n : Int), .int .i64 0]) ∧ LwD w0 w' B z' ((RS z).flatMap mdL) k ∧ QTo w (z.own B) w' (z'.own B) ∧ z'.x = z.x ∧ toDo z' = [] := by
  refine (dall_any h.a).mono ?_
  rintro e w' ⟨done, rest, z', h1, rfl, h2, h3, h4, h5, h6, h7⟩
  have hr : rest = [] := by
    rcases h3 with a | ⟨r, l, a, b⟩
    · exact a
    · have hm : r ∈ toDo z := by rw [h1, a]; exact List.mem_append_right _ (List.mem_cons_self ..)
      have hm2 := (nxt_sub (rs := recsI (1024 * z.x.i0) z.x.l) r hm).1
      obtain ⟨_, _, _, _, b3, _, _, b1⟩ := recsI_put h.a.i.tp.la' r hm2
      omega
  subst hr
  rw [List.append_nil] at h1
  have hall : (RS z).flatMap mdL = D ++ done.flatMap mdL := by rw [h.all, h1]
  rw [← hall] at h4
  refine ⟨done.length, z', rfl, h.of_x h4 h6 ?_, h5, h6, h7⟩
  unfold RS
  rw [h6, h7]
  simp
theorem LwD.of_made {w w' : World} {B : DspB} {z : DspG} (h : DspA w w' B z []) (h1 : z.x.l = []) (h2 : z.x.i0 = 0) (h3 : z.x.n = 0) : LwD w w' B z [] 0 := by
  have e : RS z = [] := by unfold RS; rw [h1]; rfl
  have e2 : toDo z = [] := List.eq_nil_of_length_eq_zero (by have := toDo_le z; rw [e] at this; simpa using this)
  exact ⟨h, by rw [e, e2]; rfl, h2, by rw [e]; exact Nat.le_refl _, by rw [h1]; exact Nat.le_refl _, by omega, by rw [h1]; decide, by rw [h1]; decide⟩
def rigC (B : DspB) : Array Value := #[.pointer (some ⟨B.tb, 0, none⟩), .pointer (some ⟨B.qb, 0, none⟩), .pointer (some ⟨B.xb, 0, none⟩), .pointer (some ⟨B.db, 0, none⟩)]
structure RigI (w : World) (rb : Nat) (B : DspB) (z : DspG) : Prop where
  at_ : w.heap[rb]? = some (.cells (rigC B) 29 (0, 0))
  out : OutD w B z rb
theorem RigI.qt {w w' : World} {rb : Nat} {B : DspB} {z z' : DspG} (h : RigI w rb B z) (hq : QTo w (z.own B) w' (z'.own B)) : RigI w' rb B z' := ⟨(h.out.to hq).2.trans h.at_, (h.out.to hq).1⟩
theorem RigI.new {w w' : World} {rb : Nat} {B : DspB} {z : DspG} (h : RigI w rb B z) (hc : Chg (fun _ => False) w w') : RigI w' rb B z := h.qt (QTo.of_new hc)
theorem RigI.cells {w : World} {rb : Nat} {B : DspB} {z : DspG} (h : RigI w rb B z) : w.cell? ⟨rb, 0, none⟩ = some (.pointer (some ⟨B.tb, 0, none⟩)) ∧ w.cell? ⟨rb, 1, none⟩ = some (.pointer (some ⟨B.qb, 0, none⟩)) ∧ w.cell? ⟨rb, 2, none⟩ = some (.pointer (some ⟨B.xb, 0, none⟩)) ∧ w.cell? ⟨rb, 3, none⟩ = some (.pointer (some ⟨B.db, 0, none⟩)) := by
  have h := h.at_
  refine ⟨?_, ?_, ?_, ?_⟩ <;> simp [World.cell?, h, rigC]
theorem LwD.lt_end {w0 w : World} {B : DspB} {z : DspG} {D : List RcM} {k : Nat} (h : LwD w0 w B z D k) {r : RcM} (hr : r ∈ RS z) : r.id + 3 ≤ 1024 * z.x.i0 + (bytesI z.x.l).length := by
  obtain ⟨_, _, _, _, b3, _, _, b1⟩ := recsI_put h.a.i.tp.la' r hr
  omega
theorem RigI.made {w w1 : World} {B : DspB} {z : DspG} (hi : DspI w w1 B z) : RigI (w1.alloc (.cells (rigC B) 29)) w1.heap.size B z := by
  have h := heap_alloc_new w1 (.cells (rigC B) 29)
  exact ⟨h, (Array.getElem?_eq_some_iff.1 h).1, fun hx => Nat.lt_irrefl _ (hi.lt _ hx)⟩
def dqA : QK := ⟨(⟨#[97]⟩, 0), by constructor <;> decide⟩
set_option maxHeartbeats 8000000 in
set_option maxRecDepth 100000 in
theorem dawake_any (w : World) (ht : Tab10 w) : Calls Tryz.prog 6 #[] w fun e w' => e = .returned (.bool true) ∧ Chg (fun _ => False) w w' := by
  have HM := Lib.hid (dmade_any w ht)
  clear ht
  go_enter Tryz.func6, Tryz.ntmps6
  go_wp2_with fail
  refine HM.out.mono ?_
  rintro e w1 ⟨B, z, rfl, hA, m1, m2, m3, m4, m5, m6, m7⟩
  have hL0 := LwD.of_made hA m1 m2 m4
  obtain ⟨W1, hW1⟩ : ∃ W, W = w1.alloc (.cells #[.pointer (some ⟨B.tb, 0, none⟩), .pointer (some ⟨B.qb, 0, none⟩), .pointer (some ⟨B.xb, 0, none⟩), .pointer (some ⟨B.db, 0, none⟩)] 29) := ⟨_, rfl⟩
  have hc1 : Chg (fun _ => False) w1 W1 := hW1 ▸ Chg.alloc _ (Chg.refl _ _) _
  have hR1 : RigI W1 w1.heap.size B z := hW1 ▸ RigI.made hL0.a.i
  have hL1 := hL0.new hc1
  obtain ⟨db, tb, qb, xb⟩ := B
  obtain ⟨rb, hrb⟩ : ∃ r, r = w1.heap.size := ⟨_, rfl⟩
  rw [← hrb] at hR1
  obtain ⟨r0, r1, r2, r3⟩ := hR1.cells
  dsimp only at *
  have HR1 := Lib.hid hR1
  have HL1 := Lib.hid hL1
  have HZ := Lib.hid (And.intro m1 (And.intro m2 (And.intro m3 (And.intro m5 m6))))
  have HW1 := Lib.hid hW1
  have HRB := Lib.hid hrb
  clear hA hL0 hL1 hR1 m1 m2 m3 m4 m5 m6 m7 hW1 hc1 hrb
  go_upto_region 2 with fail
  rw [← HW1.out, ← HRB.out]
  have hsn : Sound awM := ⟨by unfold maxLen; decide, by unfold maxLen; decide, by decide, by decide, fun t h => by cases h⟩
  have hap : Calls Tryz.prog 14 #[.pointer (some ⟨tb, 0, none⟩), .agg #[.int .i64 1, .int .i64 0, .int .i64 0, .int .i64 0, .int .i64 0, .int .i64 0, .string ⟨#[97]⟩, .string ⟨#[]⟩, .string ⟨#[]⟩, .slice none 0 0]] W1 (AppendTo w W1 ⟨db, tb, qb, xb⟩ z [] 0 awM) := HL1.out.append (by decide) awM (.slice none 0 0) ⟨none, 0, rfl, .inl rfl⟩ ⟨none, 0, 0, rfl, Nat.le_refl _⟩ hsn
  have HAP := Lib.hid hap
  clear hsn hap
  go_wp2_with fail
  refine HAP.out.mono ?_
  rintro e w2 (⟨er, q1, q2, rfl, _⟩ | ⟨id, len, z2, rfl, hL2, hq2, a1, a2, a3, a4, a5, a6, a7⟩)
  · exfalso
    rcases q2 with ⟨_, q | q⟩ | q
    · exact absurd q (by decide)
    · rw [awM_put] at q; cases q
    · rw [HZ.out.2.2.2.2, HZ.out.2.2.2.1] at q
      exact absurd q (by decide)
  have hRs : RS z = [] := by unfold RS; rw [HZ.out.1]; rfl
  have hTd : toDo z = [] := List.eq_nil_of_length_eq_zero (by have := toDo_le z; rw [hRs] at this; simpa using this)
  rw [hRs, List.nil_append] at a1
  rw [hTd, List.nil_append] at a2
  rw [HZ.out.2.2.1] at a4
  have hR2 := HR1.out.qt hq2
  obtain ⟨r0, r1, r2, r3⟩ := hR2.cells
  dsimp only at r0 r1 r2 r3
  have HS2 := Lib.hid hL2.step
  have HR2 := Lib.hid hR2
  have HA2 := Lib.hid (And.intro a1 (And.intro a2 a4))
  have HL2 := Lib.hid hL2
  have HC2 := Lib.hid hL2.chg
  clear hL2 hq2 a1 a2 a3 a4 a5 a6 a7 hRs hTd hR2
  go_wp2_with fail
  refine HS2.out.mono ?_
  rintro e w3 ⟨b3, z3, D3, rfl, hL3, hq3, hx3, hn3, _⟩
  obtain ⟨hb3, hd3, ht3⟩ := hn3 (.inr ⟨_, [], HA2.out.2.1, by rw [HA2.out.2.2]; exact Int.natCast_nonneg _⟩)
  subst hb3
  subst hd3
  have hR3 := HR2.out.qt hq3
  obtain ⟨r0, r1, r2, r3⟩ := hR3.cells
  dsimp only at r0 r1 r2 r3
  have HS3 := Lib.hid (hL3.sync (by decide))
  have HR3 := Lib.hid hR3
  have HL3 := Lib.hid hL3
  have HT3 : Hid (toDo z3 = [⟨id, len, awM⟩]) := Lib.hid (ht3.trans HA2.out.2.1)
  have HQ3 : Hid (RS z3 = [⟨id, len, awM⟩]) := Lib.hid (by unfold RS; rw [hx3]; exact HA2.out.1)
  clear hL3 hq3 hx3 hn3 ht3 hR3
  go_wp2_with fail
  refine HS3.out.mono ?_
  rintro e w4 ⟨rfl, z4, hL4, hq4, a1, a2, a3, a4, a5, a6, _⟩
  have hR4 := HR3.out.qt hq4
  obtain ⟨r0, r1, r2, r3⟩ := hR4.cells
  dsimp only at r0 r1 r2 r3
  have HS4 := Lib.hid hL4.step
  have HR4 := Lib.hid hR4
  have HL4 := Lib.hid hL4
  have HT4 : Hid (toDo z4 = [⟨id, len, awM⟩]) := Lib.hid (a2.trans HT3.out)
  have hlt : ((id : Nat) : Int) < z4.x.m.synced := by
    have h1 := HL3.out.lt_end (r := ⟨id, len, awM⟩) (by rw [HQ3.out]; exact List.mem_cons_self ..)
    rw [a4]
    dsimp only at h1
    omega
  have HLT := Lib.hid hlt
  clear hL4 hq4 a1 a2 a3 a4 a5 a6 hR4 hlt
  go_wp2_with fail
  refine HS4.out.mono ?_
  rintro e w5 ⟨b5, z5, D5, rfl, hL5, hq5, hx5, _, hn5⟩
  obtain ⟨hb5, hd5, ht5⟩ := hn5 _ _ HT4.out HLT.out
  subst hb5
  have hD5 : D5 = [⟨id, len, awM⟩] := hd5
  have hR5 := HR4.out.qt hq5
  obtain ⟨r0, r1, r2, r3⟩ := hR5.cells
  dsimp only at r0 r1 r2 r3
  have hcnt : (lnD z5.y.L dqA).base + (lnD z5.y.L dqA).es.length = 1 := by
    have e1 : awM.topic = dqA.1.1 := rfl
    have e2 : awM.queue = dqA.1.2 := rfl
    rw [(lnD_zero hL5.a.n.ln dqA).1, hL5.a.n.rel.es dqA, hD5]
    simp [List.filter_cons, e1, e2]
  have hmd := manyD_le hL5.a.n.md
  have hn2 := hL5.a.n.n
  rw [hD5] at hmd hn2
  simp only [List.length_cons, List.length_nil] at hmd
  have hNX := qnextq_any hL5.a.i.qx.q (by omega) dqA
  rw [hcnt] at hNX
  have hNX : Calls Tryz.prog 22 #[.pointer (some ⟨qb, 0, none⟩), .string ⟨#[97]⟩, .int .i64 0] w5 fun e w' => e = .returned (.int .i64 1) ∧ Below w5.heap.size w5 w' := hNX
  have HNX := Lib.hid hNX
  have HC5 := Lib.hid hL5.chg
  clear hL5 hq5 hx5 hn5 hd5 ht5 hD5 hR5 hcnt hmd hn2 hNX
  go_wp2_with fail
  refine HNX.out.mono ?_
  rintro e w6 ⟨rfl, hb6⟩
  have HC6 : Hid (Chg (fun _ => False) w w6) := Lib.hid (HC5.out.trans (Chg.of_below hb6) (fun _ _ x => x))
  clear hb6
  go_wp2_with fail
  go_ret
  exact ⟨rfl, HC6.out⟩
end Go.Proofs.YtdnhgodfmjapmaaGreatDoor
