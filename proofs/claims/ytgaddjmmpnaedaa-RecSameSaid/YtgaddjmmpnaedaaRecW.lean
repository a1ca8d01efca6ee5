/-
  RecSame, walked.
-/
import Derived.Test.YtgaddjmmpnaedaaRecV
namespace Go.Proofs.Ytgaddjmmpnaedaa
open Go.RowKit Go.Deep
set_option linter.unusedVariables false
set_option linter.unusedSimpArgs false

theorem two_msgs (w : World) (a b : MsgM) (va vb : Value) : ∀ k p, [(a, va), (b, vb)][k]? = some p → ∀ i, i < 10 → (w.alloc (.cells #[.int .i64 a.kind, .int .i64 a.queue, .int .i64 a.due, .int .i64 a.retry, .int .i64 a.ref, .int .i64 a.born, .string a.topic, .string a.tag, .string a.body, va, .int .i64 b.kind, .int .i64 b.queue, .int .i64 b.due, .int .i64 b.retry, .int .i64 b.ref, .int .i64 b.born, .string b.topic, .string b.tag, .string b.body, vb] 24)).cell? ⟨w.heap.size, k * 10 + i, none⟩ = (p.1.cells p.2)[i]? := by
  intro k p hp i hi
  have hc : ∀ j, (w.alloc (.cells #[.int .i64 a.kind, .int .i64 a.queue, .int .i64 a.due, .int .i64 a.retry, .int .i64 a.ref, .int .i64 a.born, .string a.topic, .string a.tag, .string a.body, va, .int .i64 b.kind, .int .i64 b.queue, .int .i64 b.due, .int .i64 b.retry, .int .i64 b.ref, .int .i64 b.born, .string b.topic, .string b.tag, .string b.body, vb] 24)).cell? ⟨w.heap.size, j, none⟩ = (#[.int .i64 a.kind, .int .i64 a.queue, .int .i64 a.due, .int .i64 a.retry, .int .i64 a.ref, .int .i64 a.born, .string a.topic, .string a.tag, .string a.body, va, .int .i64 b.kind, .int .i64 b.queue, .int .i64 b.due, .int .i64 b.retry, .int .i64 b.ref, .int .i64 b.born, .string b.topic, .string b.tag, .string b.body, vb] : Array Value)[j]? := Box.cell (Box.new w _)
  rw [hc]
  match k, hp with
  | 0, hp =>
    simp only [List.getElem?_cons_zero, Option.some.injEq] at hp
    subst hp
    have : i = 0 ∨ i = 1 ∨ i = 2 ∨ i = 3 ∨ i = 4 ∨ i = 5 ∨ i = 6 ∨ i = 7 ∨ i = 8 ∨ i = 9 := by omega
    rcases this with rfl | rfl | rfl | rfl | rfl | rfl | rfl | rfl | rfl | rfl <;> rfl
  | 1, hp =>
    simp only [List.getElem?_cons_succ, List.getElem?_cons_zero, Option.some.injEq] at hp
    subst hp
    have : i = 0 ∨ i = 1 ∨ i = 2 ∨ i = 3 ∨ i = 4 ∨ i = 5 ∨ i = 6 ∨ i = 7 ∨ i = 8 ∨ i = 9 := by omega
    rcases this with rfl | rfl | rfl | rfl | rfl | rfl | rfl | rfl | rfl | rfl <;> rfl
  | k + 2, hp => simp at hp
def IsTrue (w : World) (e : Ending) (w' : World) : Prop := e = .returned (.bool true) ∧ Below w.heap.size w w'
theorem below_alloc3 {a w : World} (h : Below a.heap.size a w) (o : Obj) : Below a.heap.size a (w.alloc o) := h.alloc h.size o
def PutIs (s : ByteArray) (x : Int) (W : World) (e : Ending) (w' : World) : Prop := e = .returned (.tuple #[.string s, .int .i64 x]) ∧ Below W.heap.size W w'
theorem put_at (m : MsgM) (vk : Value) (t : Nat) (w : World) (hs : ∀ W, Below w.heap.size w W → Sized W (m, vk)) (hf : Fine m) (hc : CapOk vk) (ht : ∀ W, Below w.heap.size w W → Cr.Tab W t) :
    ∃ (s : ByteArray) (x : Int), (∀ W, Below w.heap.size w W → Calls Try.prog 9 #[.pointer (some ⟨t, 0, none⟩), m.val vk] W (PutIs s x W)) ∧ (x = 1 ∨ (x = 0 ∧ putO m = some s.data.toList)) := by
  have h0 := hs w (Below.refl _ _)
  refine ⟨⟨((putO m).getD []).toArray⟩, if (putO m).isSome then 0 else 1, fun W h => put_any m vk t W (hs W h).strs hc ⟨h0.topic, h0.tag, Nat.le_trans hf.body (by decide), Nat.le_trans hf.many (by decide), h0.keys⟩ (ht W h), ?_⟩
  cases putO m <;> simp
def NewTo (w : World) (e : Ending) (w' : World) : Prop := ∃ g, e = .returned (.pointer (some ⟨g, 0, none⟩)) ∧ Cr.Tab w' g ∧ g < w'.heap.size ∧ Below w.heap.size w w'
theorem new_at (w : World) : Calls Try.prog 7 #[] w (NewTo w) := (Cr.new_any w).mono fun _ w' h => ⟨_, h.1, h.2.1, by exact Cr.Tab.lt h.2.1, h.2.2⟩
theorem owns_first {w : World} {base n cap g : Nat} {t u : ByteArray} {ts : List ByteArray} (h : w.ownsRow base 9 1 (.slice (some ⟨g, 0, none⟩) n cap) (t :: ts).length ((t :: ts).map Value.string)) :
    (w.setCell ⟨g, 0, none⟩ (.string u)).ownsRow base 9 1 (.slice (some ⟨g, 0, none⟩) n cap) (u :: ts).length ((u :: ts).map Value.string) := by
  obtain ⟨h1, h2⟩ := h
  rcases h2 with ⟨hv, _⟩ | ⟨g', cap', cur, hv, hg, hh, h3, h4, h5, h6⟩
  · cases hv
  · cases hv
    refine ⟨by simp, .inr ⟨g, cap, cur.setIfInBounds 0 (.string u), rfl, hg, ?_, h3, h4, by simpa using h5, ?_⟩⟩
    · unfold World.setCell
      simp [hh, Array.getElem?_modify]
    · rw [Array.toList_setIfInBounds, List.take_set]
      show (List.take ((t :: ts).length * 1) cur.toList).set 0 (.string u) = _
      rw [h6]
      rfl
theorem owns_cell0 {w : World} {base n cap g : Nat} {t : ByteArray} {ts : List ByteArray} (h : w.ownsRow base 9 1 (.slice (some ⟨g, 0, none⟩) n cap) (t :: ts).length ((t :: ts).map Value.string)) :
    n = (t :: ts).length ∧ w.cell? ⟨g, 0, none⟩ = some (.string t) ∧ w.frozen? ⟨g, 0, none⟩ = false ∧ base ≤ g ∧ g < w.heap.size := by
  obtain ⟨h1, h2⟩ := h
  rcases h2 with ⟨hv, _⟩ | ⟨g', cap', cur, hv, hg, hh, h3, h4, h5, h6⟩
  · cases hv
  · cases hv
    have e : cur[0]? = some (.string t) := by
      have e1 : (cur.toList.take ((t :: ts).length * 1))[0]? = ((t :: ts).map Value.string)[0]? := by rw [h6]
      rw [List.getElem?_take, if_pos (by simp), Array.getElem?_toList] at e1
      rw [e1]
      rfl
    exact ⟨rfl, by simp [World.cell?, hh, e], by simp [World.frozen?, hh], hg, (Array.getElem?_eq_some_iff.1 hh).1⟩
theorem owns_low {w : World} {base : Nat} {e : TypeId} {n k : Nat} {v : Value} {xs : List Value} (h : w.ownsRow base e n v k xs) : w.ownsRow 0 e n v k xs := by
  refine ⟨h.1, ?_⟩
  rcases h.2 with h2 | ⟨g, cap, cur, hv, _, h3⟩
  · exact .inl h2
  · exact .inr ⟨g, cap, cur, hv, Nat.zero_le _, h3⟩
theorem longer_ne {a : MsgM} {t : ByteArray} {ts : List ByteArray} (hk : a.keys = t :: ts) : sameB ⟨a.kind, a.queue, a.due, a.retry, a.ref, a.born, a.topic, a.tag, a.body, (t ++ ⟨#[120]⟩) :: ts⟩ a = false := by
  refine Bool.eq_false_iff.2 fun e => ?_
  have h := congrArg MsgM.keys (sameB_iff.1 e)
  dsimp only at h
  rw [hk] at h
  injection h with h _
  have h2 := congrArg ByteArray.size h
  rw [ByteArray.size_append] at h2
  have : (⟨#[120]⟩ : ByteArray).size = 1 := rfl
  omega
set_option maxHeartbeats 8000000 in
set_option maxRecDepth 100000 in
theorem law_same (a b : MsgM) (va vb : Value) (n : Int) (w : World) (ha : Sized w (a, va)) (hb : Sized w (b, vb)) (ca : CapOk va) (cb : CapOk vb) :
    Calls Try.prog 3 #[a.val va, b.val vb, .int .i64 n] w (IsTrue w) := by
  obtain ⟨W0, hW0⟩ : ∃ W, W = (w.alloc (.cells #[.int .i64 a.kind, .int .i64 a.queue, .int .i64 a.due, .int .i64 a.retry, .int .i64 a.ref, .int .i64 a.born, .string a.topic, .string a.tag, .string a.body, va] 24)).alloc (.cells #[.int .i64 b.kind, .int .i64 b.queue, .int .i64 b.due, .int .i64 b.retry, .int .i64 b.ref, .int .i64 b.born, .string b.topic, .string b.tag, .string b.body, vb] 24) := ⟨_, rfl⟩
  have hl0 : Below w.heap.size w W0 := by
    rw [hW0]
    exact ((Below.refl w.heap.size w).alloc (Nat.le_refl _) _).alloc (by simp only [World.size_alloc]; omega) _
  have hba : Box W0 w.heap.size #[.int .i64 a.kind, .int .i64 a.queue, .int .i64 a.due, .int .i64 a.retry, .int .i64 a.ref, .int .i64 a.born, .string a.topic, .string a.tag, .string a.body, va] := by rw [hW0]; exact (Box.new w _).alloc _
  have hbb : Box W0 (w.heap.size + 1) #[.int .i64 b.kind, .int .i64 b.queue, .int .i64 b.due, .int .i64 b.retry, .int .i64 b.ref, .int .i64 b.born, .string b.topic, .string b.tag, .string b.body, vb] := by
    have := Box.new (w.alloc (.cells (a.cells va) 24)) (b.cells vb)
    rw [World.size_alloc] at this
    rw [hW0]
    exact this
  have HBL := Lib.hid (Below.refl W0.heap.size W0)
  have HBA := Lib.hid hba
  have HBB := Lib.hid hbb
  have HL0 := Lib.hid hl0
  have HW0 := Lib.hid hW0
  have HA := Lib.hid ha
  have HB := Lib.hid hb
  have HCA := Lib.hid ca
  have HCB := Lib.hid cb
  have HSA : Hid (∀ W, Below W0.heap.size W0 W → Sized W (a, va)) := Lib.hid fun W h => ⟨HA.out.strs.below (HL0.out.trans (h.mono HL0.out.size)) (Nat.le_refl _), HA.out.body, HA.out.topic, HA.out.tag, HA.out.many, HA.out.keys⟩
  have HSB : Hid (∀ W, Below W0.heap.size W0 W → Sized W (b, vb)) := Lib.hid fun W h => ⟨HB.out.strs.below (HL0.out.trans (h.mono HL0.out.size)) (Nat.le_refl _), HB.out.body, HB.out.topic, HB.out.tag, HB.out.many, HB.out.keys⟩
  have k0 := hba.cell
  have k1 := hbb.cell
  clear hl0 hba hbb hW0 ha hb ca cb
  unfold MsgM.val
  unfold MsgM.cells at *
  go_enter Try.func3, Try.ntmps3
  go_wp2_with fail
  rw [← HW0.out]
  refine (law_awake _).mono ?_
  rintro e w1 ⟨rfl, hb1⟩
  have hbl1 := below_step3 (a := W0) (by repeat (first | exact HBL.out | with_reducible refine below_alloc3 ?_ _ | with_reducible refine below_drewN ?_ _ | with_reducible refine below_drew2 ?_)) hb1
  clear k0 k1
  have k0 := (HBA.out.below hbl1 HBA.out.lt).cell
  have k1 := (HBB.out.below hbl1 HBB.out.lt).cell
  have HBL := Lib.hid hbl1
  clear hb1 hbl1

  go_wp2_with fail
  obtain ⟨W1, hW1⟩ : ∃ W, W = w1.alloc (.cells #[.int .i64 a.kind, .int .i64 a.queue, .int .i64 a.due, .int .i64 a.retry, .int .i64 a.ref, .int .i64 a.born, .string a.topic, .string a.tag, .string a.body, va, .int .i64 b.kind, .int .i64 b.queue, .int .i64 b.due, .int .i64 b.retry, .int .i64 b.ref, .int .i64 b.born, .string b.topic, .string b.tag, .string b.body, vb] 24) := ⟨_, rfl⟩
  rw [← hW1]
  have hbl1 : Below W0.heap.size W0 W1 := by rw [hW1]; exact below_alloc HBL.out _
  have HG := Lib.hid (great_any [(a, va), (b, vb)] w1.heap.size 2 W1 (by rw [hW1, World.size_alloc]; omega) rfl (by decide) (by
    intro p hp
    simp only [List.mem_cons, List.not_mem_nil, or_false] at hp
    rcases hp with rfl | rfl
    · exact HSA.out _ hbl1
    · exact HSB.out _ hbl1) (by rw [hW1]; exact two_msgs w1 a b va vb))
  clear k0 k1 HBL
  have k0 := (HBA.out.below hbl1 HBA.out.lt).cell
  have k1 := (HBB.out.below hbl1 HBB.out.lt).cell
  have HBL := Lib.hid hbl1
  clear hbl1 hW1
  refine HG.out.mono ?_
  rintro e w2 ⟨z, rfl, hf, hb2⟩
  have hbl2 := below_step3 (a := W0) (by repeat (first | exact HBL.out | with_reducible refine below_alloc3 ?_ _ | with_reducible refine below_drewN ?_ _ | with_reducible refine below_drew2 ?_)) hb2
  clear k0 k1
  have k0 := (HBA.out.below hbl2 HBA.out.lt).cell
  have k1 := (HBB.out.below hbl2 HBB.out.lt).cell
  have HBL := Lib.hid hbl2
  clear hb2 hbl2

  clear HG
  cases z
  case true =>
    go_wp2_with fail
    go_ret
    exact ⟨rfl, HL0.out.trans (HBL.out.mono HL0.out.size)⟩
  have HFA := Lib.hid (hf rfl (a, va) (by simp))
  have HFB := Lib.hid (hf rfl (b, vb) (by simp))
  dsimp only at HFA HFB
  clear hf
  go_wp2_with fail
  refine (new_at _).mono ?_
  rintro e w3 ⟨g, rfl, ht3, hg3, hb3⟩
  have hbl3 := below_step3 (a := W0) (by repeat (first | exact HBL.out | with_reducible refine below_alloc3 ?_ _ | with_reducible refine below_drewN ?_ _ | with_reducible refine below_drew2 ?_)) hb3
  clear k0 k1
  have HBA3 := Lib.hid (HBA.out.below hbl3 HBA.out.lt)
  have HBB3 := Lib.hid (HBB.out.below hbl3 HBB.out.lt)
  have HSA3 : Hid (∀ W, Below w3.heap.size w3 W → Sized W (a, va)) := Lib.hid fun W h => HSA.out W (below_step3 hbl3 h)
  have HSB3 : Hid (∀ W, Below w3.heap.size w3 W → Sized W (b, vb)) := Lib.hid fun W h => HSB.out W (below_step3 hbl3 h)
  have HTB : Hid (∀ W, Below w3.heap.size w3 W → Cr.Tab W g) := Lib.hid fun W h => ht3.below h hg3
  have HL3 := Lib.hid (HL0.out.trans (hbl3.mono HL0.out.size))
  clear HBL HBA HBB HSA HSB HL0 HW0 HA HB hb3 hbl3 ht3 hg3
  have HBL := Lib.hid (Below.refl w3.heap.size w3)
  have HBA := HBA3
  have HBB := HBB3
  clear HBA3 HBB3
  have k0 := HBA.out.cell
  have k1 := HBB.out.cell
  obtain ⟨sa, xa, hpa, hxa⟩ := put_at a va g w3 HSA3.out HFA.out HCA.out HTB.out
  obtain ⟨sb, xb, hpb, hxb⟩ := put_at b vb g w3 HSB3.out HFB.out HCB.out HTB.out
  unfold MsgM.val MsgM.cells at hpa hpb
  obtain ⟨z, hz⟩ : ∃ z, sameB a b = z := ⟨_, rfl⟩
  have HZ := Lib.hid hz
  have HXA := Lib.hid hxa
  have HXB := Lib.hid hxb
  have HPA := Lib.hid hpa
  have HPB := Lib.hid hpb
  have ten : 10 ≤ 10000 := by decide
  have HRS : Hid (∀ W, Below w3.heap.size w3 W → Calls Try.prog 8 #[.agg #[.int .i64 a.kind, .int .i64 a.queue, .int .i64 a.due, .int .i64 a.retry, .int .i64 a.ref, .int .i64 a.born, .string a.topic, .string a.tag, .string a.body, va], .agg #[.int .i64 b.kind, .int .i64 b.queue, .int .i64 b.due, .int .i64 b.retry, .int .i64 b.ref, .int .i64 b.born, .string b.topic, .string b.tag, .string b.body, vb]] W (RSameTo z W)) := Lib.hid fun W h => rsame_any a b va vb z W (HSA3.out W h).strs (HSB3.out W h).strs (Nat.le_trans HFA.out.many ten) (Nat.le_trans HFB.out.many ten) hz
  have HSM : Hid (∀ W, Below w3.heap.size w3 W → Calls Try.prog 10 #[.agg #[.int .i64 a.kind, .int .i64 a.queue, .int .i64 a.due, .int .i64 a.retry, .int .i64 a.ref, .int .i64 a.born, .string a.topic, .string a.tag, .string a.body, va], .agg #[.int .i64 b.kind, .int .i64 b.queue, .int .i64 b.due, .int .i64 b.retry, .int .i64 b.ref, .int .i64 b.born, .string b.topic, .string b.tag, .string b.body, vb]] W (RSameTo z W)) := Lib.hid fun W h => same_any a b va vb z W (HSA3.out W h).strs (HSB3.out W h).strs (Nat.le_trans HFA.out.many ten) (Nat.le_trans HFB.out.many ten) hz
  have HCP : Hid (∀ W, Below w3.heap.size w3 W → Calls Try.prog 11 #[.agg #[.int .i64 a.kind, .int .i64 a.queue, .int .i64 a.due, .int .i64 a.retry, .int .i64 a.ref, .int .i64 a.born, .string a.topic, .string a.tag, .string a.body, va]] W (CopyTo a W)) := Lib.hid fun W h => copy_any a va W (HSA3.out W h).strs (Nat.le_trans HFA.out.many ten)
  clear hz hxa hxb hpa hpb ten
  go_wp2_with fail
  (with_reducible refine (HRS.out _ ?_).mono ?_)
  · repeat (first | exact HBL.out | with_reducible refine below_alloc3 ?_ _ | with_reducible refine below_drewN ?_ _ | with_reducible refine below_drew2 ?_)
  rintro e w4 ⟨rfl, hb4⟩
  have hbl4 := below_step3 (a := w3) (by repeat (first | exact HBL.out | with_reducible refine below_alloc3 ?_ _ | with_reducible refine below_drewN ?_ _ | with_reducible refine below_drew2 ?_)) hb4
  clear k0 k1
  have k0 := (HBA.out.below hbl4 HBA.out.lt).cell
  have k1 := (HBB.out.below hbl4 HBB.out.lt).cell
  have HBL := Lib.hid hbl4
  clear hb4 hbl4

  go_wp2_with fail
  (with_reducible refine (HPA.out _ ?_).mono ?_)
  · repeat (first | exact HBL.out | with_reducible refine below_alloc3 ?_ _ | with_reducible refine below_drewN ?_ _ | with_reducible refine below_drew2 ?_)
  rintro e w5 ⟨rfl, hb5⟩
  have hbl5 := below_step3 (a := w3) (by repeat (first | exact HBL.out | with_reducible refine below_alloc3 ?_ _ | with_reducible refine below_drewN ?_ _ | with_reducible refine below_drew2 ?_)) hb5
  clear k0 k1
  have k0 := (HBA.out.below hbl5 HBA.out.lt).cell
  have k1 := (HBB.out.below hbl5 HBB.out.lt).cell
  have HBL := Lib.hid hbl5
  clear hb5 hbl5

  go_wp2_with fail
  (with_reducible refine (HPB.out _ ?_).mono ?_)
  · repeat (first | exact HBL.out | with_reducible refine below_alloc3 ?_ _ | with_reducible refine below_drewN ?_ _ | with_reducible refine below_drew2 ?_)
  rintro e w6 ⟨rfl, hb6⟩
  have hbl6 := below_step3 (a := w3) (by repeat (first | exact HBL.out | with_reducible refine below_alloc3 ?_ _ | with_reducible refine below_drewN ?_ _ | with_reducible refine below_drew2 ?_)) hb6
  clear k0 k1
  have k0 := (HBA.out.below hbl6 HBA.out.lt).cell
  have k1 := (HBB.out.below hbl6 HBB.out.lt).cell
  have HBL := Lib.hid hbl6
  clear hb6 hbl6

  go_upto_region 9 with fail
  go_cut [60] (fun c wx => c = .bool false ∧ Below w3.heap.size w3 wx)
  case first =>
    go_wp2_with fail
    (with_reducible refine (HSM.out _ ?_).mono ?_)
    · repeat (first | exact HBL.out | with_reducible refine below_alloc3 ?_ _ | with_reducible refine below_drewN ?_ _ | with_reducible refine below_drew2 ?_)
    rintro e w7 ⟨rfl, hb7⟩
    have hbl7 := below_step3 (a := w3) (by repeat (first | exact HBL.out | with_reducible refine below_alloc3 ?_ _ | with_reducible refine below_drewN ?_ _ | with_reducible refine below_drew2 ?_)) hb7
    clear k0 k1
    have k0 := (HBA.out.below hbl7 HBA.out.lt).cell
    have k1 := (HBB.out.below hbl7 HBB.out.lt).cell
    have HBL := Lib.hid hbl7
    clear hb7 hbl7

    rcases HXA.out with rfl | ⟨rfl, hsa⟩
    · cases z <;>
      (go_wp2_with fail
       go_meet
       case rel => exact ⟨rfl, HBL.out⟩)
    rcases HXB.out with rfl | ⟨rfl, hsb⟩
    · cases z <;>
      (go_wp2_with fail
       go_meet
       case rel => exact ⟨rfl, HBL.out⟩)
    by_cases hs : sa = sb
    · subst hs
      obtain rfl : z = true := by rw [← HZ.out]; exact sameB_iff.2 (put_inj hsa hsb)
      clear hsa hsb
      go_wp2_with fail
      go_meet
      case rel => exact ⟨rfl, HBL.out⟩
    · obtain rfl : z = false := by
        rw [← HZ.out]
        refine Bool.eq_false_iff.2 fun e => hs ?_
        have e2 := sameB_iff.1 e
        rw [e2, hsb] at hsa
        simp only [Option.some.injEq] at hsa
        rw [← ba_toList sa, ← ba_toList sb, ByteArray.toList_eq, ByteArray.toList_eq, hsa]
      have hne : sa.toList ≠ sb.toList := fun h => hs (by rw [← ba_toList sa, h, ba_toList sb])
      have hq : (sa.toList == sb.toList) = false := by simpa using hne
      clear hne hs hsa hsb
      go_wp2_with fail
      go_meet
      case rel => exact ⟨rfl, HBL.out⟩
  case rest =>
  obtain ⟨rfl, hblx⟩ := hcut
  clear k0 k1 HBL
  have k0 := (HBA.out.below hblx HBA.out.lt).cell
  have k1 := (HBB.out.below hblx HBB.out.lt).cell
  have HBL := Lib.hid hblx
  clear hblx HRS HSM HPA HPB HXA HXB HZ
  go_wp2_with fail
  (with_reducible refine (HCP.out _ ?_).mono ?_)
  · repeat (first | exact HBL.out | with_reducible refine below_alloc3 ?_ _ | with_reducible refine below_drewN ?_ _ | with_reducible refine below_drew2 ?_)
  rintro e w8 ⟨vc, rfl, hown, hb8⟩
  have HBX := Lib.hid HBL.out
  have hbl8 := below_step3 (a := w3) (by repeat (first | exact HBL.out | with_reducible refine below_alloc3 ?_ _ | with_reducible refine below_drewN ?_ _ | with_reducible refine below_drew2 ?_)) hb8
  clear k0 k1
  have k0 := (HBA.out.below hbl8 HBA.out.lt).cell
  have k1 := (HBB.out.below hbl8 HBB.out.lt).cell
  have HBL := Lib.hid hbl8
  clear hb8 hbl8

  obtain ⟨ka, kl, kc, rfl⟩ := owns_form hown
  have HOWN := Lib.hid hown
  have HGK := Lib.hid HBX.out.size
  have HSZ : Hid (w.heap.size < w3.heap.size) := Lib.hid HBA.out.lt
  clear hown HCP
  unfold MsgM.val MsgM.cells
  go_upto_if 66 with fail
  go_cut [7] (fun p wx => p = .pointer (some ⟨g, 0, none⟩) ∧ Below w3.heap.size w3 wx)
  case first =>
    rcases HOWN.out.2 with ⟨hv, h0⟩ | ⟨gk, cap, cur, hv, _⟩
    · cases hv
      go_wp2_with fail
      go_meet
      case rel => exact ⟨rfl, below_alloc3 HBL.out _⟩
    obtain ⟨rfl, hkl, rfl⟩ : ka = some ⟨gk, 0, none⟩ ∧ kl = a.keys.length ∧ kc = cap := by
      cases hv
      exact ⟨rfl, rfl, rfl⟩
    cases hk : a.keys with
    | nil =>
      rw [hk] at hkl
      obtain rfl : kl = 0 := hkl
      clear hk hv
      go_wp2_with fail
      go_meet
      case rel => exact ⟨rfl, below_alloc3 HBL.out _⟩
    | cons t ts =>
      have hown := HOWN.out
      rw [hk] at hown
      have HOWN2 := Lib.hid hown
      obtain ⟨hn0, hc0, hf0, hlo, hhi⟩ := owns_cell0 hown
      have hkp : 0 < kl := by rw [hn0]; simp
      have hlen := HFA.out.many
      rw [← hkl] at hlen
      have hw3 : w3.heap.size ≤ gk := by have := HGK.out; omega
      have hnea : w.heap.size < gk := by have := HSZ.out; omega
      obtain ⟨W9, hW9⟩ : ∃ W, W = w8.alloc (.cells #[.int .i64 a.kind, .int .i64 a.queue, .int .i64 a.due, .int .i64 a.retry, .int .i64 a.ref, .int .i64 a.born, .string a.topic, .string a.tag, .string a.body, .slice (some ⟨gk, 0, none⟩) kl kc] 24) := ⟨_, rfl⟩
      have hbl9 : Below w3.heap.size w3 W9 := by rw [hW9]; exact below_alloc3 HBL.out _
      have hbx9 : Box W9 w8.heap.size #[.int .i64 a.kind, .int .i64 a.queue, .int .i64 a.due, .int .i64 a.retry, .int .i64 a.ref, .int .i64 a.born, .string a.topic, .string a.tag, .string a.body, .slice (some ⟨gk, 0, none⟩) kl kc] := by rw [hW9]; exact Box.new _ _
      have ho9 : W9.ownsRow 0 9 1 (.slice (some ⟨gk, 0, none⟩) kl kc) (t :: ts).length ((t :: ts).map Value.string) := by rw [hW9]; exact owns_low (World.ownsRow.alloc hown _)
      obtain ⟨z1, hc9, hf9, z2, z3⟩ := owns_cell0 ho9
      clear z1 z2 z3
      have HL9 := Lib.hid (below_alloc3 HBL.out (.cells #[.int .i64 a.kind, .int .i64 a.queue, .int .i64 a.due, .int .i64 a.retry, .int .i64 a.ref, .int .i64 a.born, .string a.topic, .string a.tag, .string a.body, .slice (some ⟨gk, 0, none⟩) kl kc] 24))
      rw [← hW9] at HL9
      have ht : t.size ≤ 100 := HFA.out.keys t (by rw [hk]; simp)
      have HSM9 := Lib.hid (same_any ⟨a.kind, a.queue, a.due, a.retry, a.ref, a.born, a.topic, a.tag, a.body, (t ++ ⟨#[120]⟩) :: ts⟩ a (.slice (some ⟨gk, 0, none⟩) kl kc) va false (W9.setCell ⟨gk, 0, none⟩ (.string (t ++ ⟨#[120]⟩))) (Oc.strs_own (owns_first ho9)) (HSA3.out _ (hbl9.setCell hw3 _)).strs (by have := HFA.out.many; rw [hk] at this; exact Nat.le_trans this (by decide)) (Nat.le_trans HFA.out.many (by decide)) (longer_ne hk))
      unfold MsgM.val MsgM.cells at HSM9
      dsimp only at HSM9
      rw [← hW9]
      have HWG : Hid (gk ≥ w3.heap.size) := Lib.hid hw3
      have k0 := (HBA.out.below hbl9 HBA.out.lt).cell
      have kc9 := hbx9.cell
      have hne1 : w8.heap.size ≠ gk := by omega
      have hne2 : w.heap.size ≠ gk := by omega
      have hkI : (0 : Int) < kl := by omega
      clear hv hkl hown hn0 hc0 hf0 hlo hhi hbl9 hbx9 ho9 hW9 hk hnea hw3 hlen
      have hts : t.size + 1 ≤ maxLen := by unfold maxLen; omega
      go_wp2_with fail
      refine HSM9.out.mono ?_
      rintro e w9 ⟨rfl, hb9⟩
      have HB9 := Lib.hid hb9
      clear hb9
      go_wp2_with fail
      go_meet
      case rel => exact ⟨rfl, below_step3 (HL9.out.setCell HWG.out _) HB9.out⟩
  case rest =>
  obtain ⟨rfl, hblx⟩ := hcut
  clear k0 k1 HBL
  have HBL := Lib.hid hblx
  clear hblx
  by_cases hn : n < 3 ∨ 1024 < n
  · go_wp2_with fail
    (with_reducible refine (fill_no n _ hn).mono ?_)
    rintro e w10 ⟨rfl, rfl⟩
    rcases hn with hn | hn
    · go_wp2_with fail
      go_ret
      exact ⟨rfl, HL3.out.trans (HBL.out.mono HL3.out.size)⟩
    · have hn3 : ¬ n < 3 := by omega
      have hn4 : 3 ≤ n := by omega
      go_wp2_with fail
      go_ret
      exact ⟨rfl, HL3.out.trans (HBL.out.mono HL3.out.size)⟩
  obtain ⟨k, rfl⟩ : ∃ k : Nat, n = (k : Int) := ⟨n.toNat, by omega⟩
  have hk3 : 3 ≤ k := by omega
  have hk4 : k ≤ 1024 := by omega
  clear hn
  obtain ⟨s, hs⟩ : ∃ s : ByteArray, s = ⟨(fillB k).toArray⟩ := ⟨_, rfl⟩
  have hss : s.size = k := by rw [hs, sizeL]; unfold fillB; rw [frameB_length, List.length_replicate]; omega
  have hgs : getS s = (fillM k, (k : Int), 0) := by
    have := get_fill k [] hk3 hk4
    rw [List.append_nil] at this
    rw [hs]
    exact this
  have HGT : Hid (∀ W, Below w3.heap.size w3 W → Calls Try.prog 13 #[.pointer (some ⟨g, 0, none⟩), .string s] W (GetTo (fillM k) k 0 W)) := Lib.hid fun W h => get_any g s (fillM k) k 0 W (HTB.out W h) (by omega) hgs
  have HFL : Hid (∀ W, Calls Try.prog 12 #[.int .i64 k] W fun e w' => e = .returned (.tuple #[.string s, .bool true]) ∧ Below W.heap.size W w') := Lib.hid fun W => fill_yes k s W hk3 hk4 hs
  have hsI : (s.size : Int) = k := by omega
  have HSI := Lib.hid hsI
  have HSS := Lib.hid hss
  clear hs hss hgs hsI
  have hk3' : (3 : Int) ≤ k := by omega
  have hk4' : (k : Int) ≤ 1024 := by omega
  go_wp2_with fail
  (with_reducible refine (HFL.out _).mono ?_)
  rintro e w10 ⟨rfl, hb10⟩
  have hbl10 := below_step3 (a := w3) (by repeat (first | exact HBL.out | with_reducible refine below_alloc3 ?_ _ | with_reducible refine below_drewN ?_ _ | with_reducible refine below_drew2 ?_)) hb10
  clear HBL
  have HBL := Lib.hid hbl10
  clear hbl10 hb10 HFL
  go_wp2_with fail
  (with_reducible refine (HGT.out _ ?_).mono ?_)
  · repeat (first | exact HBL.out | with_reducible refine below_alloc3 ?_ _ | with_reducible refine below_drewN ?_ _ | with_reducible refine below_drew2 ?_)
  rintro e w11 ⟨vm, rfl, _, hcm, hb11⟩
  obtain ⟨ma, ml, mc, rfl, _⟩ := hcm
  have hbl11 := below_step3 (a := w3) (by repeat (first | exact HBL.out | with_reducible refine below_alloc3 ?_ _ | with_reducible refine below_drewN ?_ _ | with_reducible refine below_drew2 ?_)) hb11
  clear HBL
  have HBL := Lib.hid hbl11
  clear hbl11 hb11 HGT
  unfold fillM MsgM.val MsgM.cells
  have hns : ((nots k).size : Int) = k := by rw [nots_size]
  have hs2 := HSI.out
  go_wp2_with fail
  go_ret
  exact ⟨rfl, HL3.out.trans (below_alloc3 HBL.out _ |>.mono HL3.out.size)⟩
end Go.Proofs.Ytgaddjmmpnaedaa
