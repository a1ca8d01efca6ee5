/-
  The contract of put: bytes laid into bytes, with noughts between.
-/
import Derived.Test.YtgephceihkkokaaGreatDoorDGrow
namespace Go.Proofs.YtgephceihkkokaaGreatDoor
open Go.RowKit Go.Deep

/-- s laid into b at a place. -/
def putB (b : List UInt8) (at_ : Nat) (s : List UInt8) : List UInt8 :=
  if s = [] then b else (b ++ List.replicate (at_ + s.length - b.length) 0).take at_ ++ s ++ (b ++ List.replicate (at_ + s.length - b.length) 0).drop (at_ + s.length)
theorem putB_nil (b : List UInt8) (a : Nat) : putB b a [] = b := by simp [putB]
theorem putB_length (b : List UInt8) (a : Nat) (s : List UInt8) (hs : s ≠ []) : (putB b a s).length = max b.length (a + s.length) := by
  simp [putB, hs]
  omega
theorem putB_ge (b : List UInt8) (a : Nat) (s : List UInt8) : b.length ≤ (putB b a s).length := by
  by_cases hs : s = []
  · rw [hs, putB_nil]; exact Nat.le_refl _
  · rw [putB_length _ _ _ hs]; omega
theorem putB_le (b : List UInt8) (a : Nat) (s : List UInt8) : (putB b a s).length ≤ max b.length (a + s.length) := by
  by_cases hs : s = []
  · rw [hs, putB_nil]; omega
  · rw [putB_length _ _ _ hs]; omega

theorem take3 {α : Type} (A B C : List α) {m : Nat} (h : A.length + B.length ≤ m) : (A ++ (B ++ C)).take m = A ++ (B ++ C.take (m - (A.length + B.length))) := by
  rw [List.take_append, List.take_of_length_le (l := A) (by omega), List.take_append, List.take_of_length_le (l := B) (by omega)]
  congr 3
  omega
theorem splice_take {cur : List Value} {ys s : List UInt8} {a m : Nat} (hm : ys.length = m) (h : cur.take m = ys.map by8) (ha : a + s.length ≤ m) (hc : m ≤ cur.length) :
    (splice cur a (s.map by8)).take m = (ys.take a ++ s ++ ys.drop (a + s.length)).map by8 := by
  unfold splice
  have e1 : cur.take a = (ys.take a).map by8 := by
    rw [List.map_take, ← h, List.take_take]
    congr 1
    omega
  have e2 : (cur.drop (a + s.length)).take (m - (a + s.length)) = (ys.drop (a + s.length)).map by8 := by
    rw [List.map_drop, ← h, List.drop_take]
  have l1 : (cur.take a).length = a := by rw [List.length_take]; omega
  rw [List.map_append, List.map_append, ← e1, ← e2, List.append_assoc, List.length_map, take3 _ _ _ (by rw [l1, List.length_map]; exact ha), l1, List.length_map]

/-- What put hands back. -/
def PutTo (w : World) (v : Value) (ys : List UInt8) (e : Ending) (w' : World) : Prop :=
  ∃ v', e = .returned v' ∧ BytesAt w' v' ys ∧ w.grownBy w' v.ownBlock ∧ (v'.ownBlock = v.ownBlock ∨ ∃ g, v'.ownBlock = some g ∧ w.heap.size ≤ g)

theorem zero_u8 (w : World) : (zeroValue 5).run Tryz.prog w = .ok (.int .u8 0) w := by kernel_rfl
theorem size_u8 : (Tryz.prog.info? 5).map (·.size) = some 1 := by kernel_rfl

theorem BytesAt.slice {w : World} {v : Value} {xs : List UInt8} (h : BytesAt w v xs) : ∃ p c, v = .slice p xs.length c := by
  rcases h.form with ⟨rfl, rfl⟩ | ⟨g, cap, cur, rfl, _⟩
  · exact ⟨_, _, rfl⟩
  · exact ⟨_, _, rfl⟩
theorem splice_end {α : Type} {cur Z : List α} {m : Nat} (h : m ≤ cur.length) : (splice cur m Z).take (m + Z.length) = cur.take m ++ Z := by
  unfold splice
  have l1 : (cur.take m).length = m := by rw [List.length_take]; omega
  rw [take3 _ _ _ (by rw [l1]; exact Nat.le_refl _), l1]
  simp
theorem grown_put {w w' : World} {g : Nat} {row : Option Nat} (h : w.grownBy w' (some g)) (hl : row = some g ∨ g = w.heap.size) : w.grownBy w' row := by
  rcases hl with rfl | rfl
  · exact h
  · exact ⟨h.os, h.tape, h.output, h.size, fun k hk _ => h.block k hk (by intro e; cases e; omega)⟩
theorem put_end {w w2 : World} {v : Value} {ys : List UInt8} {g m cap : Nat} {cs : List Value} (hy : ys.length = m) (hg : w2.heap[g]? = some (.cells cs.toArray 5 (0, 0))) (hgr : w.grownBy w2 v.ownBlock) (h1 : m ≤ cap) (h2 : cap ≤ 9223372036854775807) (h3 : cs.length = cap)
    (h4 : cs.take m = ys.map by8) (hl : v.ownBlock = some g ∨ w.heap.size ≤ g) : PutTo w v ys (.returned (.slice (some ⟨g, 0, none⟩) m cap)) w2 := by
  subst hy
  exact ⟨_, rfl, BytesAt.mk hg h1 (by unfold maxLen; exact h2) (by simpa using h3) (by simpa using h4), hgr, hl.elim (fun e => .inl e.symm) (fun e => .inr ⟨g, rfl, e⟩)⟩
theorem grow_int (v : Value) (xs : List UInt8) (k : Int) (n : Nat) (w : World) (h : BytesAt w v xs) (hn : 0 < n) (hbig : xs.length + n ≤ 1099511627776) (hk : k = n) :
    Calls Tryz.prog 84 #[v, .int .i64 k] w (Grown w v xs (xs.length + n)) := hk ▸ grow_any v xs n w h hn hbig

set_option maxHeartbeats 1000000 in
set_option maxRecDepth 100000 in
theorem put_any (v : Value) (xs : List UInt8) (a : Nat) (s : ByteArray) (w : World) (h : BytesAt w v xs) (hx : xs.length ≤ 1099511627776) (ha : a + s.size ≤ 1099511627776) :
    Calls Tryz.prog 61 #[v, .int .i64 a, .string s] w (PutTo w v (putB xs a s.data.toList)) := by
  have hl : s.data.toList.length = s.size := by rw [Array.length_toList]; rfl
  by_cases hs : s.size = 0
  · have hs0 : s.data.toList = [] := List.length_eq_zero_iff.1 (by omega)
    have hs1 : s.toList.isEmpty = true := by rw [ByteArray.toList_eq, hs0]; rfl
    have hs2 : s.toList = [] := by rw [ByteArray.toList_eq, hs0]
    rw [hs0, putB_nil]
    have H := Lib.hid h
    clear h hs0 hl hs
    go_enter Tryz.func61, Tryz.ntmps61
    go_wp2_with fail
    go_ret
    exact ⟨v, rfl, H.out, grownBy_refl _ _, .inl rfl⟩
  · have hsne : s.data.toList ≠ [] := fun e => hs (by rw [← hl, e]; rfl)
    have hs1 : s.toList.isEmpty = false := by rw [ByteArray.toList_eq]; simpa using hsne
    have hs2 : ¬ s.toList = [] := by rw [ByteArray.toList_eq]; exact hsne
    by_cases hend : a + s.size ≤ xs.length
    · rcases h.form with ⟨rfl, rfl⟩ | ⟨g, cap, cur, rfl, hg, h1, h2, h3, h4⟩
      · exfalso; simp only [List.length_nil] at hend; omega
      · have e : putB xs a s.data.toList = xs.take a ++ s.data.toList ++ xs.drop (a + s.data.toList.length) := by
          rw [putB, if_neg hsne, hl, show a + s.size - xs.length = 0 by omega]
          simp
        rw [e]
        have h5 := splice_take (s := s.data.toList) (a := a) rfl h4 (by omega) (by simp; omega)
        have HG := Lib.hid hg
        have H5 := Lib.hid h5
        have HL := Lib.hid hl
        obtain ⟨m, hm⟩ : ∃ m, m = xs.length := ⟨_, rfl⟩
        obtain ⟨ys, hys⟩ : ∃ ys, ys = xs.take a ++ s.data.toList ++ xs.drop (a + s.data.toList.length) := ⟨_, rfl⟩
        have hym : ys.length = m := by rw [hys, hm]; simp; omega
        rw [← hys] at H5 ⊢
        rw [← hm] at H5 hend hx h1 ⊢
        have HY := Lib.hid hym
        have HM := Lib.hid hm
        have hsz : cur.toList.length = cap := by simpa using h3
        have HS := Lib.hid hsz
        unfold maxLen at h2
        have hca : ¬ (cap = a) := by omega
        clear hg h5 hl h h3 h4 hsne hs hys hym hm hsz e
        go_enter Tryz.func61, Tryz.ntmps61
        go_wp2_with (with_reducible refine wpList_copy_text rfl (.tmp 33) (.tmp 34) 48 9 rfl 5 Tryz.underlying48 size_u8 g a (m - a) (cap - a) rfl s rfl ?c1 cur.toList 5 ?c2 ?c3 ?c4)
        case c1 => omega
        case c2 => exact HG.out
        case c3 => rw [HS.out]; omega
        case c4 =>
          intro w2 H2 HG2 _
          go_wp2_with fail
          go_ret
          exact put_end HY.out H2.out HG2.out h1 h2 (by rw [length_splice _ _ _ (by rw [List.length_map, HS.out, HL.out]; omega)]; exact HS.out) H5.out (.inl rfl)
    · obtain ⟨n, hn⟩ : ∃ n, a + s.size = xs.length + n := ⟨a + s.size - xs.length, by omega⟩
      obtain ⟨m, hm⟩ : ∃ m, m = xs.length := ⟨_, rfl⟩
      have hput : putB xs a s.data.toList = (xs ++ List.replicate n 0).take a ++ s.data.toList ++ (xs ++ List.replicate n 0).drop (a + s.data.toList.length) := by
        rw [putB, if_neg hsne, hl, show a + s.size - xs.length = n by omega]
      have hyl : (putB xs a s.data.toList).length = a + s.size := by
        rw [putB_length _ _ _ hsne, hl]; omega
      obtain ⟨ys, hys⟩ : ∃ ys, ys = putB xs a s.data.toList := ⟨_, rfl⟩
      rw [← hys] at hput hyl ⊢
      obtain ⟨p, c, hv⟩ := h.slice
      rw [← hm] at hv
      subst hv
      have H := Lib.hid h
      have HP := Lib.hid hput
      have HY := Lib.hid hyl
      have HL := Lib.hid hl
      have HM := Lib.hid hm
      rw [← hm] at hx hend hn
      have HN := Lib.hid hn
      have hn1 : (m : Int) < (a : Int) + s.size := by omega
      have hn0 : 0 < n := by omega
      have hsp : 0 < s.size := by omega
      clear h hput hyl hl hys hs hsne hm hn
      go_enter Tryz.func61, Tryz.ntmps61
      go_wp2_with (go_at_call 84; refine (grow_int _ xs _ n w H.out hn0 (by have := HN.out; have := HM.out; omega) (by have := HN.out; have := HM.out; omega)).mono ?_)
      rintro e w1 ⟨g, cap, cur, rfl, hg, hc, hcm, hcs, htk, hgr, hloc⟩
      have HGB := Lib.hid hg
      have HCS := Lib.hid hcs
      have HTK := Lib.hid htk
      have HGR := Lib.hid hgr
      have HLOC := Lib.hid hloc
      have hc2 : a + s.size ≤ cap := by have := HN.out; have := HM.out; omega
      unfold maxLen at hcm
      rw [← HM.out]
      clear hg hcs htk hgr hloc hc
      go_wp2_with (with_reducible refine wpList_clear_row rfl (.tmp 30) 48 rfl 5 Tryz.underlying48 (.int .u8 0) zero_u8 rfl rfl g m (a + s.size - m) (cap - m) ?c1 rfl cur.toList 5 ?c2 ?c3 ?c4)
      case c1 => omega
      case c2 => exact HGB.out
      case c3 => have := HCS.out; simp only [Array.length_toList]; omega
      case c4 =>
        intro w2 H2 HG2 _
        have hac : ¬ (cap = a) := by omega
        go_wp2_with (with_reducible refine wpList_copy_text rfl (.tmp 33) (.tmp 34) 48 9 rfl 5 Tryz.underlying48 size_u8 g a s.size (cap - a) rfl s rfl ?c5 (splice cur.toList m (List.replicate (a + s.size - m) (.int .u8 0))) 5 ?c6 ?c7 ?c8)
        case c5 => exact Nat.le_refl _
        case c6 => exact H2.out
        case c7 => rw [length_splice _ _ _ (by have := HCS.out; simp; omega)]; have := HCS.out; simp only [Array.length_toList]; omega
        case c8 =>
          intro w3 H3 HG3 _
          go_wp2_with fail
          go_ret
          have hmn : m + n = a + s.size := HN.out.symm
          have hnn : a + s.size - m = n := by omega
          have h6 := H3.out
          rw [hnn] at h6
          have hcz : cur.toList.length = cap := by rw [Array.length_toList]; exact HCS.out
          have hz1 : (splice cur.toList m (List.replicate n (Value.int .u8 0))).length = cap := by rw [length_splice _ _ _ (by rw [List.length_replicate]; omega)]; exact hcz
          have h7 : (splice cur.toList m (List.replicate n (Value.int .u8 0))).take (a + s.size) = (xs ++ List.replicate n 0).map by8 := by
            have h8 := splice_end (cur := cur.toList) (Z := List.replicate n (Value.int .u8 0)) (m := m) (by omega)
            rw [List.length_replicate, hmn] at h8
            rw [h8, List.map_append, List.map_replicate]
            have h9 := HTK.out
            rw [← HM.out] at h9
            rw [h9]
            rfl
          have hlx : (xs ++ List.replicate n (0 : UInt8)).length = a + s.size := by rw [List.length_append, List.length_replicate, ← HM.out]; exact hmn
          refine put_end HY.out h6 (grown_put (grownBy_trans (grownBy_wide HGR.out (some g)) (grownBy_trans HG2.out HG3.out)) (HLOC.out)) hc2 hcm ?_ ?_ ?_
          · rw [length_splice _ _ _ (by rw [hz1, List.length_map, HL.out]; exact hc2)]
            exact hz1
          · rw [HP.out]
            exact splice_take hlx h7 (by rw [HL.out]; exact Nat.le_refl _) (by rw [hz1]; exact hc2)
          · exact HLOC.out.elim .inl (fun e => .inr (by omega))
end Go.Proofs.YtgephceihkkokaaGreatDoor
