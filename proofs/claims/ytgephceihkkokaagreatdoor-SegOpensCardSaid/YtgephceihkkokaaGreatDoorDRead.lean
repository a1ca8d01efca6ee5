/-
  The contracts of the disk's looks: ready, find, Len, Room, Size, Down, All.
-/
import Derived.Test.YtgephceihkkokaaGreatDoorDDisk
import Derived.Test.YtgephceihkkokaaGreatDoorFlat
import Derived.IntWalk
import Derived.Lib.BufferRead
namespace Go.Proofs.YtgephceihkkokaaGreatDoor
open Go.RowKit Go.Deep

/-- What ready tells. -/
def readyE (st : St) (ts : List ByteArray) : Int := if st.down = true then 8 else if (ts.all fun t => (st.find t).isSome) = true then 0 else 9
theorem readyE_one (st : St) (nm : ByteArray) : readyE st [nm] = if st.down = true then 8 else if (st.find nm).isSome = true then 0 else 9 := by simp [readyE]

def ReadyTo (st : St) (ts : List ByteArray) (w : World) (e : Ending) (w' : World) : Prop := e = .returned (.int .i64 (readyE st ts)) ∧ w = w'

set_option maxRecDepth 100000 in
theorem ready_any (g : Gh) (st : St) (v : Value) (ts : List ByteArray) (w : World) (h : DiskAt w g st) (hs : Strs w 0 v ts) (hm : ∀ t ∈ ts, t.size ≤ maxLen) (hl : ts.length ≤ 1099511627776) :
    Calls Tryz.prog 50 #[.pointer (some ⟨g.d, 0, none⟩), v] w (ReadyTo st ts w) := by
  obtain ⟨a, cap, rfl⟩ := hs.form
  obtain ⟨c0, c1, c2, c3, c4, c5, c6, hz⟩ := h.cells
  have H := Lib.hid h
  have HS := Lib.hid hs
  have HM := Lib.hid hm
  obtain ⟨n, hn⟩ : ∃ n, n = ts.length := ⟨_, rfl⟩
  rw [← hn] at hl ⊢
  have HN := Lib.hid hn
  clear hz h hs hm hn
  cases hq : st.down with
  | true =>
    rw [hq] at c1
    have HQ := Lib.hid hq
    clear hq
    go_enter Tryz.func50, Tryz.ntmps50
    go_wp2_with fail
    go_ret
    exact ⟨ret_of (by unfold readyE; rw [if_pos HQ.out]), rfl⟩
  | false =>
    rw [hq] at c1
    have HQ := Lib.hid hq
    clear hq
    go_enter Tryz.func50, Tryz.ntmps50
    go_wp2_with fail
    go_loop [16] (fun i => ∃ k : Nat, k ≤ n ∧ i = .int .i64 k ∧ (ts.take k).all (fun t => (st.find t).isSome) = true) (fun i => n - (intOf i).toNat)
    case atStart => exact ⟨0, Nat.zero_le _, rfl, rfl⟩
    case round =>
      obtain ⟨k, hk, rfl, hall⟩ := hrel
      have HA := Lib.hid hall
      clear hall
      by_cases hlt : k < n
      · have hlt' : k < ts.length := by rw [← HN.out]; exact hlt
        obtain ⟨b, o, hbo, hcell⟩ := (HN.out ▸ HS.out : Strs w 0 (.slice a n cap) ts).cellAt hlt'
        obtain ⟨t, ht⟩ : ∃ t, t = ts.getD k ⟨#[]⟩ := ⟨_, rfl⟩
        rw [← ht] at hcell
        subst hbo
        have hmem : t ∈ ts := by rw [ht, List.getD_eq_getElem?_getD, List.getElem?_eq_getElem hlt']; exact List.getElem_mem hlt'
        have hlk := H.out.map.look t (HM.out t hmem)
        have htk : ts.take (k + 1) = ts.take k ++ [t] := by rw [take_snoc' ts hlt', ht]
        have hfind := H.out.find t
        cases hg : getE g.es t with
        | none =>
          rw [hg] at hlk hfind
          have HF : Hid (st.find t = none) := hfind.symm
          have HT := Lib.hid hmem
          clear hfind hg htk ht hmem hlt'
          simp only [Option.map_none] at hlk
          go_wp2_with fail
          go_ret
          refine ⟨ret_of ?_, rfl⟩
          unfold readyE
          rw [if_neg (by rw [HQ.out]; simp), if_neg]
          intro hx
          have := (List.all_eq_true.1 hx) t HT.out
          rw [HF.out] at this
          cases this
        | some e =>
          rw [hg] at hlk hfind
          have HF : Hid (st.find t = some e.f) := hfind.symm
          have HT := Lib.hid htk
          clear hfind hg htk ht hmem hlt'
          simp only [Option.map_some] at hlk
          go_wp2_with fail
          go_round
          case rel =>
            refine ⟨k + 1, by omega, by go_num, ?_⟩
            rw [HT.out, List.all_append, HA.out]
            simp [HF.out]
          case measure => simp [intOf]; omega
      · have hkn : k = n := by omega
        have HK := Lib.hid hkn
        clear hkn
        go_wp2_with fail
        go_ret
        refine ⟨ret_of ?_, rfl⟩
        unfold readyE
        have := HA.out
        rw [HK.out, HN.out, List.take_length] at this
        rw [if_neg (by rw [HQ.out]; simp), if_pos this]

theorem below_strs (w : World) (nm : ByteArray) : Below w.heap.size w (w.alloc (.cells #[.string nm] 9)) := (Below.refl _ _).alloc (Nat.le_refl _) _
set_option maxRecDepth 100000 in
theorem find_err (g : Gh) (st : St) (nm : ByteArray) (w : World) (h : DiskAt w g st) (hm : nm.size ≤ maxLen) (k : Int) (hk : readyE st [nm] = k) (hne : (k != 0) = true) :
    Calls Tryz.prog 52 #[.pointer (some ⟨g.d, 0, none⟩), .string nm] w fun e w' => e = .returned (.tuple #[.pointer none, .int .i64 k]) ∧ Below w.heap.size w w' := by
  have hne2 : (k == 0) = false := by simpa using hne
  have hr := fun w' (hb : Below w.heap.size w w') (v : Value) (hv : Strs w' 0 v [nm]) => ready_any g st v [nm] w' (h.new (Chg.of_below hb)) hv (fun t ht => by simp at ht; exact ht ▸ hm) (by simp)
  rw [show ReadyTo st [nm] = fun w e w' => e = .returned (.int .i64 k) ∧ w = w' from by unfold ReadyTo; rw [hk]] at hr
  have HR := Lib.hid hr
  have HS := Lib.hid (strs_one w nm)
  clear hr hk h
  go_enter Tryz.func52, Tryz.ntmps52
  go_wp2_with (go_at_call 50; refine (HR.out _ (below_strs w nm) _ HS.out).mono ?_; rintro e w' ⟨rfl, rfl⟩)
  go_ret2
  exact ⟨rfl, below_strs w nm⟩

set_option maxRecDepth 100000 in
theorem find_ok (g : Gh) (st : St) (nm : ByteArray) (w : World) (h : DiskAt w g st) (hm : nm.size ≤ maxLen) (hd : st.down = false) (e0 : Ent) (hg : getE g.es nm = some e0) :
    Calls Tryz.prog 52 #[.pointer (some ⟨g.d, 0, none⟩), .string nm] w fun e w' => e = .returned (.tuple #[pk e0.blk, .int .i64 0]) ∧ Below w.heap.size w w' := by
  have hk : readyE st [nm] = 0 := by
    have h1 := h.has nm
    rw [hg] at h1
    rw [readyE_one, if_neg (by rw [hd]; simp), if_pos (by rw [← h1]; rfl)]
  have h2 : DiskAt (w.alloc (.cells #[.string nm] 9)) g st := h.new (Chg.of_below (below_strs w nm))
  have hlk := h2.map.look nm hm
  rw [hg] at hlk
  simp only [Option.map_some] at hlk
  obtain ⟨c0, c1, c2, c3, c4, c5, c6, hz⟩ := h2.cells
  have hr := fun w' (hb : Below w.heap.size w w') (v : Value) (hv : Strs w' 0 v [nm]) => ready_any g st v [nm] w' (h.new (Chg.of_below hb)) hv (fun t ht => by simp at ht; exact ht ▸ hm) (by simp)
  rw [show ReadyTo st [nm] = fun w e w' => e = .returned (.int .i64 0) ∧ w = w' from by unfold ReadyTo; rw [hk]] at hr
  have HR := Lib.hid hr
  have HS := Lib.hid (strs_one w nm)
  clear hr hk h h2 hz c0 c1 c2 c3 c4 c5 hg hd
  go_enter Tryz.func52, Tryz.ntmps52
  go_wp2_with (go_at_call 50; refine (HR.out _ (below_strs w nm) _ HS.out).mono ?_; rintro e w' ⟨rfl, rfl⟩)
  go_ret2
  exact ⟨rfl, below_strs w nm⟩

/-- How many bytes a file has. -/
def St.len (st : St) (nm : ByteArray) : Nat := match st.find nm with | none => 0 | some f => f.bytes.length
set_option maxRecDepth 100000 in
theorem len_any (g : Gh) (st : St) (nm : ByteArray) (w : World) (h : DiskAt w g st) (hm : nm.size ≤ maxLen) :
    Calls Tryz.prog 64 #[.pointer (some ⟨g.d, 0, none⟩), .string nm] w fun e w' => e = .returned (.int .i64 (st.len nm)) ∧ w = w' := by
  have hlk := h.map.look nm hm
  obtain ⟨c0, c1, c2, c3, c4, c5, c6, hz⟩ := h.cells
  have hfind := h.find nm
  cases hg : getE g.es nm with
  | none =>
    rw [hg] at hlk hfind
    have HF : Hid (st.find nm = none) := hfind.symm
    simp only [Option.map_none] at hlk
    clear hz c0 c1 c2 c3 c4 c5 h hfind hg
    go_enter Tryz.func64, Tryz.ntmps64
    go_wp2_with fail
    go_ret
    exact ⟨ret_of (by unfold St.len; rw [HF.out]; rfl), rfl⟩
  | some e =>
    rw [hg] at hlk hfind
    have HF : Hid (st.find nm = some e.f) := hfind.symm
    simp only [Option.map_some] at hlk
    have hE := h.ents e (getE_mem hg).1
    have k1 := hE.cells.2.1
    obtain ⟨p, c, hv⟩ := hE.bytes.slice
    rw [hv] at k1
    obtain ⟨n, hn⟩ : ∃ n, n = e.f.bytes.length := ⟨_, rfl⟩
    rw [← hn] at k1
    have HN := Lib.hid hn
    clear hz c0 c1 c2 c3 c4 c5 h hfind hg hE hv hn
    go_enter Tryz.func64, Tryz.ntmps64
    go_wp2_with fail
    go_ret
    exact ⟨ret_of (by unfold St.len; rw [HF.out, HN.out]), rfl⟩

set_option maxRecDepth 100000 in
theorem room_any (g : Gh) (st : St) (w : World) (h : DiskAt w g st) (h1 : st.size ≤ st.cap) (h2 : st.cap ≤ 16777216) :
    Calls Tryz.prog 53 #[.pointer (some ⟨g.d, 0, none⟩)] w fun e w' => e = .returned (.int .i64 ((st.cap : Int) - st.size)) ∧ ∃ k, w' = w.drewN k := by
  obtain ⟨c0, c1, c2, c3, c4, c5, c6, hz⟩ := h.cells
  have hw : IntKind.i64.wrap ((st.cap : Int) - (st.size : Int)) = (st.cap : Int) - st.size := IntWalk.i64_in _ (by omega)
  clear hz h
  go_enter Tryz.func53, Tryz.ntmps53
  go_wp2_with fail
  go_quiet (fail)
  go_wp2_with fail
  go_ret
  exact ⟨rfl, _, rfl⟩
set_option maxRecDepth 100000 in
theorem down_any (g : Gh) (st : St) (w : World) (h : DiskAt w g st) :
    Calls Tryz.prog 31 #[.pointer (some ⟨g.d, 0, none⟩)] w fun e w' => e = .returned (.bool st.down) ∧ w = w' := by
  obtain ⟨c0, c1, c2, c3, c4, c5, c6, hz⟩ := h.cells
  clear hz h
  go_enter Tryz.func31, Tryz.ntmps31
  go_wp2_with fail
  go_ret
  exact ⟨rfl, rfl⟩

/-- What Fuse leaves. -/
def fuseS (st : St) (n : Int) : St := { st with lit := decide (0 ≤ n), left := n }
def FuseTo (g : Gh) (st : St) (n : Int) (w : World) (e : Ending) (w' : World) : Prop := e = .returned (.tuple #[]) ∧ DiskAt w' g (fuseS st n) ∧ Gh.To w g g w'
/-- What All tells. -/
def allE (st : St) (nm : ByteArray) : List UInt8 × Int := if st.down = true then ([], 8) else match st.find nm with | none => ([], 9) | some f => (f.bytes, 0)
def AllTo (st : St) (nm : ByteArray) (w : World) (e : Ending) (w' : World) : Prop := e = .returned (.tuple #[.string ⟨(allE st nm).1.toArray⟩, .int .i64 (allE st nm).2]) ∧ Below w.heap.size w w'
theorem bytes_text {w : World} {v : Value} {xs : List UInt8} (h : BytesAt w v xs) : (convert 48 9 v).run Tryz.prog w = .ok (.string ⟨xs.toArray⟩) w := by
  rcases h.form with ⟨rfl, rfl⟩ | ⟨g, cap, cur, rfl, hg, h1, h2, h3, h4⟩
  · exact Lib.run_convert_nil_bytes w _ _ _ 0 Tryz.underlying48 Tryz.underlying5 Tryz.underlying9
  · refine run_convert_bytes_back w _ _ _ _ cap xs Tryz.underlying48 Tryz.underlying5 Tryz.underlying9 (fun j hj => ?_)
    rw [add_none]
    have e1 : (cur.toList.take xs.length)[j]? = (xs.map by8)[j]? := by rw [h4]
    rw [List.getElem?_take, if_pos hj, Array.getElem?_toList, List.getElem?_map, List.getElem?_eq_getElem hj] at e1
    simp [World.cell?, hg, e1, by8]
set_option maxRecDepth 100000 in
theorem all_any (g : Gh) (st : St) (nm : ByteArray) (w : World) (h : DiskAt w g st) (hm : nm.size ≤ maxLen) :
    Calls Tryz.prog 46 #[.pointer (some ⟨g.d, 0, none⟩), .string nm] w (AllTo st nm w) := by
  cases hq : st.down with
  | true =>
    have hk : readyE st [nm] = 8 := by unfold readyE; rw [if_pos hq]
    have HC := Lib.hid (find_err g st nm w h hm 8 hk rfl)
    have HQ := Lib.hid hq
    clear h hq hk
    go_enter Tryz.func46, Tryz.ntmps46
    go_wp2_with (go_at_call 52; refine HC.out.mono ?_; rintro e w' ⟨rfl, hb⟩)
    go_ret2
    refine ⟨?_, hb⟩
    unfold allE
    rw [if_pos HQ.out]
    rfl
  | false =>
    cases hg : getE g.es nm with
    | none =>
      have hf := h.find nm
      rw [hg] at hf
      have HF : Hid (st.find nm = none) := hf.symm
      have hk : readyE st [nm] = 9 := by rw [readyE_one, if_neg (by rw [hq]; simp), if_neg (by rw [HF.out]; simp)]
      have HC := Lib.hid (find_err g st nm w h hm 9 hk rfl)
      have HQ := Lib.hid hq
      clear h hq hk hg hf
      go_enter Tryz.func46, Tryz.ntmps46
      go_wp2_with (go_at_call 52; refine HC.out.mono ?_; rintro e w' ⟨rfl, hb⟩)
      go_ret2
      refine ⟨?_, hb⟩
      unfold allE
      rw [if_neg (by rw [HQ.out]; simp), HF.out]
      rfl
    | some e0 =>
      have hf := h.find nm
      rw [hg] at hf
      have HF : Hid (st.find nm = some e0.f) := hf.symm
      have HC := Lib.hid (find_ok g st nm w h hm hq e0 hg)
      have HQ := Lib.hid hq
      have HE := Lib.hid (h.ents e0 (getE_mem hg).1)
      clear h hq hg hf
      go_enter Tryz.func46, Tryz.ntmps46
      go_wp2_with (go_at_call 52; refine HC.out.mono ?_)
      rintro e w' ⟨rfl, hb⟩
      have hE : EntAt w' e0 := HE.out.chg (Chg.of_below (S := fun _ => False) hb) (fun _ _ x => x)
      have k1 := hE.cells.2.1
      have ht := bytes_text hE.bytes
      obtain ⟨p, c, hv⟩ := hE.bytes.slice
      rw [hv] at k1 ht
      unfold pk
      clear hE hv
      go_wp2_with fail
      go_ret2
      refine ⟨?_, hb⟩
      unfold allE
      rw [if_neg (by rw [HQ.out]; simp), HF.out]
      rfl
end Go.Proofs.YtgephceihkkokaaGreatDoor
