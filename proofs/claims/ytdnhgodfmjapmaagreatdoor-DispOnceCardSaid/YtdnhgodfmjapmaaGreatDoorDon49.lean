/- A part. -/
import Derived.Deep.AppendLies
import Derived.Test.YtdnhgodfmjapmaaGreatDoorDon47
set_option linter.unusedVariables false
set_option linter.unusedSimpArgs false
namespace Go.Proofs.YtdnhgodfmjapmaaGreatDoor
open Go.RowKit Go.Deep
theorem own_below {w W : World} {base : Nat} {e : TypeId} {sz n : Nat} {v : Value} {xs : List Value} (h : w.ownsRow base e sz v n xs) (hb : Below w.heap.size w W) : W.ownsRow base e sz v n xs := by
  refine ⟨h.1, ?_⟩
  rcases h.2 with h0 | ⟨g1, cap, cur, e1, hbase, hbk, rest⟩
  · exact .inl h0
  · exact .inr ⟨g1, cap, cur, e1, hbase, (hb.block g1 (Array.getElem?_eq_some_iff.1 hbk).1).trans hbk, rest⟩
theorem below_al {w w' : World} (h : Below w.heap.size w w') (o : Obj) : Below w.heap.size w (w'.alloc o) := h.alloc h.size o
theorem pack_grow {n : Nat} {w W w' : World} {r : Option Nat} (hg : W.grownBy w' r) (hb : Below n w W) : ∃ W', Below n w W' ∧ W'.grownBy w' r := ⟨W, hb, hg⟩
def aenc (L : List (QK × LnM)) (k : QK) : List Value := [.string k.1.1, .int .i64 k.1.2, .int .i64 ((lnD L k).least : Int), .int .i64 (((lnD L k).base + (lnD L k).es.length : Nat) : Int)]
def QAllTo (L : List (QK × LnM)) (w : World) (e : Ending) (w' : World) : Prop := ∃ v l, e = .returned v ∧ l.Perm (L.map (·.1)) ∧ QSorted l ∧ w'.ownsRow w.heap.size 52 4 v l.length (l.flatMap (aenc L)) ∧ Below w.heap.size w w'
theorem info_queue : (Tryz.prog.info? 52).map (fun i => (i.zero, i.size, i.bytes)) = some (some (.agg #[.string ⟨#[]⟩, .int .i64 0, .int .i64 0, .int .i64 0]), 4, 40) := by kernel_rfl
set_option maxHeartbeats 4000000 in
set_option maxRecDepth 100000 in
theorem qall_any {w0 w : World} {qb : Nat} {mv : Option Nat} {g : Gh} {st : St} {n : Nat} {L : List (QK × LnM)} (h : QsI w0 w qb mv g st n L) (hL : L.length ≤ 1000000) (hn : n ≤ 100000) :
    Calls Tryz.prog 16 #[.pointer (some ⟨qb, 0, none⟩)] w (QAllTo L w) := by
  have hI := qids_any h.q.at_ h.map (by unfold lbs; rw [List.length_map]; exact hL)
  have HI := Lib.hid hI
  obtain ⟨i0, hi, hz0, hz1, hz2⟩ := info_parts info_queue
  have HH := Lib.hid h
  have HF1 : Hid (∀ W, Below w.heap.size w W → ∀ (k : QK) (x : LnM), getK L k = some x → (∀ W1, Below W.heap.size W W1 → Calls Tryz.prog 41 #[.pointer (some ⟨qb, 0, none⟩), .agg #[.string k.1.1, .int .i64 k.1.2]] W1 fun e w' => e = .returned (.pointer (some ⟨x.lb, 0, none⟩)) ∧ Below W1.heap.size W1 w' ∧ Below W.heap.size W w') ∧
      (∀ W1, Below W.heap.size W W1 → Calls Tryz.prog 42 #[.pointer (some ⟨x.lb, 0, none⟩)] W1 fun e w' => e = .returned (.int .i64 (x.least : Int)) ∧ W1 = w') ∧
      (∀ W1, Below W.heap.size W W1 → Calls Tryz.prog 43 #[.pointer (some ⟨x.lb, 0, none⟩)] W1 fun e w' => e = .returned (.int .i64 ((x.base + x.es.length : Nat) : Int)) ∧ ∃ q, w' = W1.drewN q)) := Lib.hid (fun W hW k x hx => by
    have key : ∀ W1, Below W.heap.size W W1 → QsI w0 W1 qb mv g st n L := fun W1 h1 => h.new (Chg.of_below (hW.trans (h1.mono hW.size)) : Chg (fun _ => False) w W1)
    have hm := getK_mem hx
    refine ⟨fun W1 h1 => ?_, fun W1 h1 => ?_, fun W1 h1 => ?_⟩
    · have h2 := key W1 h1
      have := qfind_any h2.q.at_ h2.map k
      rw [getK_lbs, hx] at this
      refine this.mono ?_
      rintro e w' ⟨rfl, hb⟩
      exact ⟨rfl, hb, h1.trans (hb.mono h1.size)⟩
    · exact qfirst_any ((key W1 h1).q.ln _ hm)
    · exact qnext_any ((key W1 h1).q.ln _ hm) hn)
  clear hI h
  go_enter Tryz.func16, Tryz.ntmps16
  go_wp2_with fail
  refine HI.out.mono ?_
  rintro e w2 ⟨v0, ids, rfl, hperm, hsort, hat, hb2⟩
  obtain ⟨p, cap, rfl, hidc⟩ := hat.form
  have hkeys : ids.Perm (L.map (·.1)) := by
    have e : (lbs L).map (·.1) = L.map (·.1) := by unfold lbs; rw [List.map_map]; rfl
    rwa [e] at hperm
  have HX : Hid (∀ i kq, ids[i]? = some kq → ∃ x, getK L kq = some x ∧ lnD L kq = x) := Lib.hid (fun i kq hi => by
    have h1 : kq ∈ L.map (·.1) := hkeys.mem_iff.1 (List.mem_of_getElem? hi)
    obtain ⟨pr, hp1, rfl⟩ := List.mem_map.1 h1
    have h2 := getK_of HH.out.q.keys hp1
    exact ⟨pr.2, h2, by unfold lnD; rw [h2]; rfl⟩)
  obtain ⟨N, hN⟩ : ∃ N, N = ids.length := ⟨_, rfl⟩
  have hNL : N ≤ 1000000 := by rw [hN, hkeys.length_eq, List.length_map]; exact hL
  rw [← hN]
  have HN := Lib.hid hN
  have HIDC := Lib.hid hidc
  have HB2 := Lib.hid hb2
  have HEND : Hid (∀ v w', w'.ownsRow w2.heap.size 52 4 v N (ids.flatMap (aenc L)) → Below w.heap.size w w' → QAllTo L w (.returned v) w') := Lib.hid (fun v w' ho hb => by
    have hb2' := hb2
    rw [hN] at ho
    refine ⟨v, ids, rfl, hkeys, hsort, ⟨ho.1, ?_⟩, hb⟩
    rcases ho.2 with h0 | ⟨g1, cap, cur, e1, hbase, rest⟩
    · exact .inl h0
    · exact .inr ⟨g1, cap, cur, e1, Nat.le_trans hb2'.size hbase, rest⟩)
  clear hperm hsort hat hidc hb2 hkeys hN HI
  go_wp2_with fail
  go_loopw [3, 9] (fun u i wr => ∃ v, ∃ k : Nat, v = u ∧ k ≤ N ∧ i = .int .i64 (k : Int) ∧ Hid (wr.ownsRow w2.heap.size 52 4 v k ((ids.take k).flatMap (aenc L))) ∧ Hid (IdsC wr w.heap.size w2.heap.size p ids) ∧ Hid (Below w.heap.size w wr) ∧ w2.heap.size ≤ wr.heap.size) (fun _ i _ => N - (intOf i).toNat)
  case atStart => exact ⟨_, 0, rfl, Nat.zero_le _, rfl, Lib.hid (World.ownsRow_nil _ _ _ _), HIDC, HB2, Nat.le_refl _⟩
  case round =>
    obtain ⟨v, k, rfl, hk, rfl, HO, HC, HB, hsz⟩ := hrel
    by_cases hlt : k < N
    · obtain ⟨kq, hkq⟩ : ∃ kq, ids[k]? = some kq := ⟨_, List.getElem?_eq_getElem (by rw [← HN.out]; exact hlt)⟩
      obtain ⟨x, hx, hlx⟩ := HX.out k kq hkq
      obtain ⟨b, rfl, hbl, hbh, c0, c1⟩ := HC.out k kq hkq
      obtain ⟨hf1, hf2, hf3⟩ := HF1.out wr HB.out kq x hx
      have htk : (ids.take (k + 1)).flatMap (aenc L) = (ids.take k).flatMap (aenc L) ++ [.string kq.1.1, .int .i64 kq.1.2, .int .i64 (x.least : Int), .int .i64 ((x.base + x.es.length : Nat) : Int)] := by
        rw [take_succ_at hkq, List.flatMap_append]
        simp [aenc, hlx]
      have hob : ∀ q, v.ownBlock = some q → w2.heap.size ≤ q ∧ q < wr.heap.size := fun q hq => HO.out.lt q hq
      obtain ⟨⟨kt, kn⟩, kp⟩ := kq
      obtain ⟨lb, hlb⟩ : ∃ y, y = x.lb := ⟨_, rfl⟩
      obtain ⟨ls, hls⟩ : ∃ y : Int, y = (x.least : Int) := ⟨_, rfl⟩
      obtain ⟨nx, hnx⟩ : ∃ y : Int, y = ((x.base + x.es.length : Nat) : Int) := ⟨_, rfl⟩
      obtain ⟨acc, hacc⟩ : ∃ acc, acc = (ids.take k).flatMap (aenc L) := ⟨_, rfl⟩
      rw [← hls, ← hnx, ← hacc] at htk
      rw [← hacc] at HO
      rw [← hlb] at hf1 hf2 hf3
      rw [← hls] at hf2
      rw [← hnx] at hf3
      dsimp only at c0 c1 hf1 htk
      have HFF := Lib.hid hf1
      have HFI := Lib.hid hf2
      have HNX := Lib.hid hf3
      have HTK := Lib.hid htk
      have HOB := Lib.hid hob
      clear hkq hx hlx hf1 hf2 hf3 htk hob hlb hls hnx hacc
      obtain ⟨W3, hW3⟩ : ∃ W, W = wr.alloc (.cells #[.string kt, .int .i64 kn] 98) := ⟨_, rfl⟩
      have hb3 : Below wr.heap.size wr W3 := hW3 ▸ (Below.refl _ _).alloc (Nat.le_refl _) _
      have j0 : W3.cell? ⟨wr.heap.size, 0, none⟩ = some (.string kt) := by rw [hW3]; simp
      have j1 : W3.cell? ⟨wr.heap.size, 1, none⟩ = some (.int .i64 kn) := by rw [hW3]; simp
      have HW3 := Lib.hid hW3
      have HB3 := Lib.hid hb3
      clear hW3 hb3
      go_upto_region 5 with fail
      rw [← HW3.out]
      have HNE : Hid (v.ownBlock ≠ some wr.heap.size) := Lib.hid (fun hx => by have := (HOB.out _ hx).2; omega)
      go_region_held3 (fun w' => w'.cell? ⟨wr.heap.size, 0, none⟩ = some (.string kt) ∧ w'.cell? ⟨wr.heap.size, 1, none⟩ = some (.int .i64 kn))
        (first
          | exact ⟨j0, j1⟩
          | (go_split_ands
             refine ⟨?_, ?_⟩
             · (rw [hgrow.cell_far _ (World.block_lt_of_cell? _ _ (by assumption)) (Ne.symm HNE.out)]; assumption)
             · (rw [hgrow.cell_far _ (World.block_lt_of_cell? _ _ (by assumption)) (Ne.symm HNE.out)]; assumption))
          | go_keep)
        (first
          | (go_at_call 41
             refine (HFF.out _ ?_).mono ?_
             · repeat (first | exact HBW.out | exact HB3.out | with_reducible refine Below.drew ?_ | with_reducible refine below_drewN ?_ _ | refine below_drewN ?_ _ | with_reducible refine below_al ?_ _)
             rintro e w4 ⟨rfl, hb4, hb5⟩
             have j0 := keep4 hb4 j0
             have j1 := keep4 hb4 j1
             have HBW := Lib.hid hb5
             clear hb4 hb5)
          | (go_at_call 42
             refine (HFI.out _ ?_).mono ?_
             · repeat (first | exact HBW.out | exact HB3.out | with_reducible refine Below.drew ?_ | with_reducible refine below_drewN ?_ _ | refine below_drewN ?_ _ | with_reducible refine below_al ?_ _)
             rintro e w4 ⟨rfl, rfl⟩)
          | (go_at_call 43
             refine (HNX.out _ ?_).mono ?_
             · repeat (first | exact HBW.out | exact HB3.out | with_reducible refine Below.drew ?_ | with_reducible refine below_drewN ?_ _ | refine below_drewN ?_ _ | with_reducible refine below_al ?_ _)
             rintro e w4 ⟨rfl, y4, rfl⟩)
          | (
             refine step_append_lies _ (by rfl) _ _ _ (by rfl) w2.heap.size 52 i0 _ 4 40 Tryz.underlying49 hi hz0 hz1 hz2 rfl (by omega) v k acc (by rfl) (own_below HO.out ?_) _ 1 1 [.string kt, .int .i64 kn, .int .i64 ls, .int .i64 nx] (by rfl) (by rfl) (World.news_of_block (cs := #[.string kt, .int .i64 kn, .int .i64 ls, .int .i64 nx]) (t := 52) (fr := (0, 0)) (heap_alloc_new _ _)) (by simp [Value.oneCell']) (by omega) (by unfold maxLen; omega) (by omega) (Nat.le_trans hsz (Below.size (show Below wr.heap.size wr _ from ?_))) _ rfl ?_
             · repeat (first | exact HBW.out | exact HB3.out | with_reducible refine Below.drew ?_ | with_reducible refine below_drewN ?_ _ | refine below_drewN ?_ _ | with_reducible refine below_al ?_ _)
             · repeat (first | exact HBW.out | exact HB3.out | with_reducible refine Below.drew ?_ | with_reducible refine below_drewN ?_ _ | refine below_drewN ?_ _ | with_reducible refine below_al ?_ _)
             intro gg cap9 w9 hown9 hgrow hat hlt9
             have hp9 := pack_grow (n := wr.heap.size) (w := wr) hgrow (by repeat (first | exact HBW.out | exact HB3.out | with_reducible refine Below.drew ?_ | with_reducible refine below_drewN ?_ _ | refine below_drewN ?_ _ | with_reducible refine below_al ?_ _))
             have HP9 := Lib.hid hp9
             have HO9 := Lib.hid hown9
             clear hp9 hown9))
      all_goals
        have hfin : Below w.heap.size w w9 ∧ IdsC w9 w.heap.size w2.heap.size (some ⟨b, 0, none⟩) ids ∧ w2.heap.size ≤ w9.heap.size := by
          obtain ⟨W', h1, h2⟩ := HP9.out
          have h3 : Below w.heap.size w W' := HB.out.trans (h1.mono HB.out.size)
          refine ⟨h3.grown h2 h3.size (fun q hq => ?_), HC.out.keep (fun bb o v' q1 q2 hv => ?_), ?_⟩
          · have := (HOB.out q hq).1
            have := HB2.out.size
            omega
          · have hv2 := (h1.cell (p := ⟨bb, o, none⟩) (by show bb < _; omega)).trans hv
            rw [h2.cell_far _ (by have := h1.size; show bb < _; omega) (fun hx => by have := (HOB.out bb hx.symm).1; omega)]
            exact hv2
          · have := h1.size
            have := h2.size
            omega
        obtain ⟨f1, f2, f3⟩ := hfin
        have HF1' := Lib.hid f1
        have HF2' := Lib.hid f2
        have HF3' := Lib.hid f3
        clear f1 f2 f3 HP9 hgrow
        go_wp2_with fail
        refine ⟨⟨_, k + 1, rfl, by omega, by go_num, Lib.hid ?_, Lib.hid ?_, Lib.hid ?_, ?_⟩, by simp [intOf]; omega⟩
        · rw [HTK.out]
          refine own_below HO9.out ?_
          repeat (first | exact Below.refl _ _ | with_reducible refine Below.drew ?_ | refine below_drewN ?_ _)
        · refine HF2'.out.keep (fun bb o v' q1 q2 hv => ?_)
          exact hv
        · repeat (first | exact HF1'.out | with_reducible refine Below.drew ?_ | refine below_drewN ?_ _)
        · exact HF3'.out
    · have hkN : k = ids.length := by rw [← HN.out]; omega
      have hq := HEND.out v wr (by have := HO.out; rw [hkN, List.take_length] at this; rw [HN.out]; exact this) HB.out
      have HQ := Lib.hid hq
      clear hq
      go_wp2_with fail
      go_ret
      exact HQ.out
end Go.Proofs.YtdnhgodfmjapmaaGreatDoor
