/-
  OctetTexts, walked, where one text is too long, and whole: true for every input; only new memory is written.
-/
import Derived.Test.YtjkcahandfacoaaApp
import Derived.Deep.DeepCutAuto
import Derived.Laws.OwnMore
namespace Go.Proofs.Ytjkcahandfacoaa
open Go.RowKit Go.Deep

/-- A block holds this. -/
def Blk (w : World) (b : Nat) (o : Obj) : Prop := w.heap[b]? = some o
theorem Blk.new' {w : World} {b : Nat} {o : Obj} (h : b = w.heap.size) : Blk (w.alloc o) b o := by subst h; exact heap_alloc_new w o
theorem Blk.lt {w : World} {b : Nat} {o : Obj} (h : Blk w b o) : b < w.heap.size := lt_of_block h
theorem Blk.alloc {w : World} {b : Nat} {o o' : Obj} (h : Blk w b o) : Blk (w.alloc o') b o := (Below.heap_alloc w o' b h.lt).trans h
theorem Blk.drew {w : World} {b : Nat} {o : Obj} (h : Blk w b o) : Blk w.drew b o := h
theorem Blk.grown {w w' : World} {b : Nat} {o : Obj} {r : Option Nat} (hg : w.grownBy w' r) (hr : some b ≠ r) (h : Blk w b o) : Blk w' b o := (hg.block b h.lt hr).trans h
theorem own_empty {w : World} {base b : Nat} (hb : base ≤ b) (h : Blk w b (.cells #[] 9)) : w.ownsRow base 9 1 (.slice (some ⟨b, 0, none⟩) 0 0) 0 [] :=
  ⟨rfl, .inr ⟨b, 0, #[], rfl, hb, h, Nat.le_refl _, by unfold maxLen; omega, rfl, rfl⟩⟩
theorem strs_one {w : World} {b : Nat} {z : ByteArray} (h : Blk w b (.cells #[.string z] 9)) : Strs w 0 (.slice (some ⟨b, 0, none⟩) 1 1) [z] :=
  ⟨some ⟨b, 0, none⟩, 1, rfl, .inr ⟨b, 0, rfl, Nat.zero_le _, fun i hi => by
    obtain rfl : i = 0 := by simp at hi; exact hi
    unfold Blk at h
    simp [World.cell?, h]⟩⟩
theorem below_alloc {w w1 : World} (h : Below w.heap.size w w1) (o : Obj) : Below w.heap.size w (w1.alloc o) := h.alloc h.size o

theorem made_strs : ∃ (M : Array Value), ∀ W : World, (Instr.makeSlice 34 (.int .i64 256) (.int .i64 256)).run Try.prog W = .ok (.slice (some ⟨W.heap.size, 0, none⟩) 256 256) (W.alloc (.cells M 9)) :=
  ⟨madeCells #[.string ⟨#[]⟩] 256, fun W => run_make_row' (P := Try.prog) 34 9 (.string ⟨#[]⟩) 16 Try.underlying34 info9 rfl .i64 .i64 256 (by omega) (by omega) W⟩
theorem listW_len (a : Option Addr) (n cap : Nat) (w : World) (hn : 255 < n) :
    Calls Try.prog 19 #[.slice a n cap] w fun e w' => e = .returned (.tuple #[.string ⟨#[]⟩, .int .i64 6]) ∧ w = w' := by
  go_enter Try.func19, Try.ntmps19
  go_wp2_with fail
  go_ret2
  exact ⟨rfl, rfl⟩
theorem absorb {p q : Prop} (h : p) (k : p → q) : q := k h

/-- A long text, made. -/
theorem made_long : ∃ (Z : ByteArray) (M : Array Value), Z.size = 65536 ∧ (∀ W : World, (Instr.makeSlice 36 (.int .i64 65536) (.int .i64 65536)).run Try.prog W = .ok (.slice (some ⟨W.heap.size, 0, none⟩) 65536 65536) (W.alloc (.cells M 5))) ∧
    ∀ (W : World) (B : Nat), Blk W B (.cells M 5) → (convert 36 9 (.slice (some ⟨B, 0, none⟩) 65536 65536)).run Try.prog W = .ok (.string Z) W := by
  obtain ⟨n, hn⟩ : ∃ n, n = 65536 := ⟨_, rfl⟩
  have hi : (n : Int) = 65536 := by rw [hn]; rfl
  refine ⟨⟨(List.replicate n (0 : UInt8)).toArray⟩, madeCells #[.int .u8 0] n, by rw [size_of, List.length_replicate]; exact hn, fun W => ?_, fun W B h => ?_⟩
  · have := run_make_row' (P := Try.prog) 36 5 (.int .u8 0) 1 Try.underlying36 info5 rfl .i64 .i64 n (by omega) (by omega) W
    rw [hi] at this
    rw [← hn]
    exact this
  · have hc := run_convert_bytes_back (P := Try.prog) W 36 9 5 ⟨B, 0, none⟩ n (List.replicate n (0 : UInt8)) Try.underlying36 Try.underlying5 Try.underlying9 fun j hj => by
      rw [List.length_replicate] at hj
      rw [add_none, Nat.zero_add]
      unfold Blk at h
      have hm : (madeCells #[Value.int .u8 0] n)[j]? = some (.int .u8 0) := by
        have e := toList_madeCells_one (Value.int .u8 0) n
        rw [← Array.getElem?_toList, e, List.getElem?_replicate, if_pos hj]
      simp [World.cell?, h, hm]
    rw [List.length_replicate] at hc
    rw [← hn]
    exact hc
set_option maxRecDepth 100000 in
set_option maxHeartbeats 2000000 in
theorem texts_long (u : Value) (ts : List ByteArray) (r : List UInt8) (w : World) (hu : Strs w 0 u ts) (hn : ts.length ≤ 60) (hr : r.length ≤ 300) :
    Calls Try.prog 4 #[u, .string ⟨r.toArray⟩, .bool true] w fun e w' => e = .returned (.bool true) ∧ Below w.heap.size w w' := by
  have HU := Lib.hid hu
  obtain ⟨a, cap, rfl⟩ := hu.form
  clear hu
  obtain ⟨rs, hrs⟩ : ∃ rs : ByteArray, rs = ⟨r.toArray⟩ := ⟨_, rfl⟩
  have hrz : rs.size = r.length := by rw [hrs, size_of]
  have hrz2 : rs.size ≤ 300 := by omega
  rw [← hrs]
  have HRS := Lib.hid hrs
  have HRZ := Lib.hid hrz
  clear hrs hrz
  go_enter Try.func4, Try.ntmps4
  go_wp2_with fail
  refine (awake_any _).mono ?_
  rintro e w1 ⟨rfl, hb⟩
  have HB := Lib.hid hb
  clear hb
  go_wp2_with fail
  go_loopw [7, 37] (fun s i wr => ∃ k : Nat, k ≤ ts.length ∧ i = .int .i64 k ∧ (∀ t ∈ ts.take k, t.size ≤ 1000) ∧ s = .string ⟨((ts.take k).flatMap txtB).toArray⟩ ∧ Below w.heap.size w wr) (fun _ i _ => ts.length - (intOf i).toNat)
  case atStart => exact ⟨0, Nat.zero_le _, rfl, by simp, rfl, HB.out⟩
  case round =>
    obtain ⟨k, hk, rfl, hall, rfl, hb⟩ := hrel
    have HALL := Lib.hid hall
    have HBR := Lib.hid hb
    clear hall hb
    obtain ⟨L, hL⟩ : ∃ L, L = (ts.take k).flatMap txtB := ⟨_, rfl⟩
    have hLl : L.length ≤ 100000 := by
      rw [hL]
      have := flat_small _ HALL.out
      have e : (ts.take k).length ≤ k := by rw [List.length_take]; omega
      omega
    rw [← hL]
    have HL := Lib.hid hL
    clear hL
    by_cases hlt : k < ts.length
    · obtain ⟨b, o, rfl, hck⟩ := (HU.out.below HBR.out (Nat.le_refl _)).cellAt hlt
      have hsn := flat_snoc ts k hlt
      obtain ⟨t, ht⟩ : ∃ t, t = ts.getD k ⟨#[]⟩ := ⟨_, rfl⟩
      rw [← ht] at hck hsn
      have HSN := Lib.hid hsn
      have HT := Lib.hid ht
      clear ht hsn
      by_cases hsz : t.size ≤ 1000
      · obtain ⟨X, hX⟩ : ∃ X, X = txtB t := ⟨_, rfl⟩
        have hXl : X.length ≤ 1002 := by rw [hX, txtB_length]; omega
        have HX := Lib.hid hX
        have HALL2 := Lib.hid (all_snoc hlt HALL.out (by rw [← HT.out]; exact hsz))
        clear hX
        go_wp2_with fail
        refine (refText_any t _ (by omega)).mono ?_
        rintro e w3 ⟨rfl, hb⟩
        rw [← HX.out]
        have HB3 := Lib.hid (HBR.out.trans (hb.mono HBR.out.size))
        clear hb
        go_wp2_with fail
        refine ⟨⟨k + 1, by omega, by go_num, HALL2.out, ?_, HB3.out⟩, by simp [intOf]; omega⟩
        rw [HSN.out, append_toArray, HL.out, HX.out]
      · go_wp2_with fail
        go_ret
        exact ⟨rfl, HBR.out⟩
    · obtain rfl : k = ts.length := by omega
      have hL := HL.out
      have hall := HALL.out
      rw [List.take_of_length_le (Nat.le_refl _)] at hL hall
      have HL2 := Lib.hid hL
      have HALL2 := Lib.hid hall
      obtain ⟨Z, M5, hZ, hmk, hcv⟩ := made_long
      have HZ := Lib.hid hZ
      have hcv2 : ∀ (W : World) (B : Nat), B = W.heap.size → (convert 36 9 (.slice (some ⟨B, 0, none⟩) 65536 65536)).run Try.prog (W.alloc (.cells M5 5)).drew = .ok (.string Z) (W.alloc (.cells M5 5)).drew := fun W B h => hcv _ _ (Blk.new' h).drew
      have hcv3 : ∀ (W : World) (B : Nat) (o : Obj), B = W.heap.size → (convert 36 9 (.slice (some ⟨B, 0, none⟩) 65536 65536)).run Try.prog ((W.alloc (.cells M5 5)).alloc o).drew = .ok (.string Z) ((W.alloc (.cells M5 5)).alloc o).drew := fun W B o h => hcv _ _ (Blk.new' h).alloc.drew
      have hcv4 : ∀ (W : World) (B : Nat), B = W.heap.size → (convert 36 9 (.slice (some ⟨B, 0, none⟩) 65536 65536)).run Try.prog (W.alloc (.cells M5 5)) = .ok (.string Z) (W.alloc (.cells M5 5)) := fun W B h => hcv _ _ (Blk.new' h)
      clear hL hall HL HALL hZ
      go_upto_region 14 with fail
      go_cut [10] from 49 to 56 (fun v wx => Strs wx 0 v (ts ++ [Z]) ∧ Below w.heap.size w wx)
      case first =>
        go_region_law (first
          | (refine step_append_strs rfl (.tmp 50) (.tmp 51) rfl w.heap.size _ _ 0 [] ts rfl rfl ?_ ?_ ?_ ?_ ?_
             · exact own_empty (by have := HBR.out.size; simp; try omega) (by (repeat (first | ((with_reducible refine Blk.new' ?_); focus (simp; done)) | with_reducible refine Blk.alloc ?_ | with_reducible refine Blk.drew ?_ | ((with_reducible refine Blk.grown hgr1 ?_ ?_); focus (first | (simp; done) | (simp; omega))))))
             · exact HU.out.below (by (repeat (first | exact HBR.out | exact HB1.out | refine below_alloc ?_ _ | refine Below.drew ?_))) (Nat.le_refl _)
             · omega
             · exact Below.size (B := w.heap.size) (w := w) (by (repeat (first | exact HBR.out | exact HB1.out | refine below_alloc ?_ _ | refine Below.drew ?_)))
             intro v1 w1 hown1 hgr1
             replace hgr1 : World.grownBy _ w1 (some _) := hgr1
             have HOWN1 : Hid (w1.ownsRow w.heap.size 9 1 v1 ts.length (ts.map Value.string)) := Lib.hid (by simpa using hown1)
             have HB1 : Hid (Below w.heap.size w w1) := Lib.hid (Below.grown (by (repeat (first | exact HBR.out | exact HB1.out | refine below_alloc ?_ _ | refine Below.drew ?_))) hgr1 (Below.size (B := w.heap.size) (w := w) (by (repeat (first | exact HBR.out | exact HB1.out | refine below_alloc ?_ _ | refine Below.drew ?_)))) (fun k e => by cases e; first | exact HBR.out.size | exact Nat.le_succ_of_le HBR.out.size | (have := HBR.out.size; simp; omega)))
             first
             |
               (refine absorb (p := Blk w1 wr.heap.size (.cells M5 5)) ?_ ?_
                focus
                  with_reducible refine Blk.grown hgr1 ?_ ?_
                  focus (simp; done)
                  (repeat (first | ((with_reducible refine Blk.new' ?_); focus (simp; done)) | with_reducible refine Blk.alloc ?_ | with_reducible refine Blk.drew ?_ | ((with_reducible refine Blk.grown hgr1 ?_ ?_); focus (first | (simp; done) | (simp; omega)))))
                  done
                intro hm1)
             |
               (refine absorb (p := Blk w1 (wr.heap.size + 1) (.cells M5 5)) ?_ ?_
                focus
                  with_reducible refine Blk.grown hgr1 ?_ ?_
                  focus (simp; done)
                  (repeat (first | ((with_reducible refine Blk.new' ?_); focus (simp; done)) | with_reducible refine Blk.alloc ?_ | with_reducible refine Blk.drew ?_ | ((with_reducible refine Blk.grown hgr1 ?_ ?_); focus (first | (simp; done) | (simp; omega)))))
                  done
                intro hm1)
             | skip
             clear hown1)
          | (refine step_append_strs rfl (.tmp 52) (.tmp 55) rfl w.heap.size _ _ ts.length (ts.map Value.string) [Z] rfl rfl ?_ ?_ ?_ ?_ ?_
             · first | exact HOWN1.out | exact HOWN1.out.alloc _ | exact (HOWN1.out.alloc _).alloc _
             · exact strs_one (by (repeat (first | ((with_reducible refine Blk.new' ?_); focus (simp; done)) | with_reducible refine Blk.alloc ?_ | with_reducible refine Blk.drew ?_ | ((with_reducible refine Blk.grown hgr1 ?_ ?_); focus (first | (simp; done) | (simp; omega))))))
             · simp; omega
             · exact Below.size (B := w.heap.size) (w := w) (by (repeat (first | exact HBR.out | exact HB1.out | refine below_alloc ?_ _ | refine Below.drew ?_)))
             intro v2 w2 hown2 hgr2
             have HOWN2 : Hid (w2.ownsRow w.heap.size 9 1 v2 (ts ++ [Z]).length ((ts ++ [Z]).map Value.string)) := Lib.hid (by rw [List.length_append, List.map_append]; exact hown2)
             have HB2 : Hid (Below w.heap.size w w2) := Lib.hid (Below.grown (by (repeat (first | exact HBR.out | exact HB1.out | refine below_alloc ?_ _ | refine Below.drew ?_))) hgr2 (Below.size (B := w.heap.size) (w := w) (by (repeat (first | exact HBR.out | exact HB1.out | refine below_alloc ?_ _ | refine Below.drew ?_)))) (fun k hk => (HOWN1.out.lt k hk).1))
             clear hown2))
        all_goals
          go_wp2_with fail
          go_meet
          exact ⟨(strs_own HOWN2.out).zero, HB2.out⟩
      case rest =>
        obtain ⟨hs, hb⟩ := hcut
        have HSV := Lib.hid hs
        have HB3 := Lib.hid hb
        obtain ⟨a4, cap4, rfl⟩ := hs.form
        have HLONG : Hid (¬ ∀ t ∈ ts ++ [Z], t.size ≤ 65535) := Lib.hid fun h => by
          have := h Z (by simp)
          rw [HZ.out] at this
          omega
        have HLEN : Hid ((ts ++ [Z]).length ≤ 255) := Lib.hid (by rw [List.length_append]; simp; omega)
        obtain ⟨A, hA⟩ : ∃ A, A = ts ++ [Z] := ⟨_, rfl⟩
        rw [← hA] at HSV HLONG HLEN ⊢
        obtain ⟨M6, hmk6⟩ := made_strs
        clear hs hb hA hmk hcv hcv2 hcv3 hcv4
        go_wp2_with fail
        refine (textW_long _ A _ (Nat.le_trans HLEN.out (by decide)) HLONG.out HSV.out).mono ?_
        rintro e w3 ⟨rfl, hb⟩
        have HSV3 := Lib.hid (HSV.out.below hb (Nat.le_refl _))
        have HB4 := Lib.hid (HB3.out.trans (hb.mono HB3.out.size))
        clear hb
        go_wp2_with fail
        refine (listW_long _ A _ HLEN.out HLONG.out HSV3.out).mono ?_
        rintro e w4 ⟨rfl, hb⟩
        have HB5 := Lib.hid (HB4.out.trans (hb.mono HB4.out.size))
        clear hb
        go_wp2_with fail
        refine (listW_len _ 256 _ _ (by decide)).mono ?_
        rintro e w5 ⟨rfl, rfl⟩
        have HB6 := Lib.hid (below_alloc HB5.out (.cells M6 9))
        go_wp2_with fail
        go_ret
        exact ⟨rfl, HB6.out⟩

theorem walk_OctetTexts (u : Value) (ts : List ByteArray) (s : ByteArray) (c : Bool) (w : World) (hu : Strs w 0 u ts) (_ws : s.size ≤ maxLen) :
    Calls Try.prog 4 #[u, .string s, .bool c] w fun e w' => e = .returned (.bool true) ∧ Below w.heap.size w w' := by
  rcases Nat.lt_or_ge 60 ts.length with h | h
  · exact texts_many u ts s c w hu (.inl h)
  rcases Nat.lt_or_ge 300 s.size with h2 | h2
  · exact texts_many u ts s c w hu (.inr ⟨h, h2⟩)
  obtain ⟨r, rfl⟩ := bytes_of s
  rw [size_of] at h2
  cases c
  · exact texts_short u ts r w hu h h2
  · exact texts_long u ts r w hu h h2
end Go.Proofs.Ytjkcahandfacoaa
