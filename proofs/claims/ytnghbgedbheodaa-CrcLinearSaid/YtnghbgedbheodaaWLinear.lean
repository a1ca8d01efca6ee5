/-
  CrcLinear, walked: true for every input; only new memory is written.
-/
import Derived.Test.YtnghbgedbheodaaWSeals
import Derived.Test.YtnghbgedbheodaaInv
import Derived.Deep.DeepCutAuto
import Derived.Deep.RegionLaw
import Derived.Deep.DeepMust
import Derived.StillTailTactics
namespace Go.Proofs.Ytnghbgedbheodaa
open Go.RowKit Go.Deep

/-- Block g begins with n bytes that may be written. -/
def ByR (w : World) (g n : Nat) (f : Nat → UInt8) : Prop := ∀ i, i < n → w.cell? ⟨g, i, none⟩ = some (by8 (f i)) ∧ w.frozen? ⟨g, i, none⟩ = false
section
variable {w w' : World} {g n : Nat} {f f' : Nat → UInt8}
theorem ByR.below (h : ByR w g n f) (hb : Below w.heap.size w w') : ByR w' g n f := fun i hi => by
  have hlt := World.block_lt_of_cell? _ _ (h i hi).1
  exact ⟨(hb.cell hlt).trans (h i hi).1, (hb.frozen hlt).trans (h i hi).2⟩
theorem ByR.congr (h : ByR w g n f) (e : ∀ i, i < n → f i = f' i) : ByR w g n f' := fun i hi => by rw [← e i hi]; exact h i hi
theorem ByR.far (h : ByR w g n f) {p : Addr} (hp : p.block ≠ g) (v : Value) : ByR (w.setCell p v) g n f := fun i hi => by
  refine ⟨?_, ?_⟩
  · rw [World.cell?_setCell_other _ _ _ _ (fun e => hp (by first | rw [e] | rw [← e]))]
    exact (h i hi).1
  · rw [World.frozen?_setCell]
    exact (h i hi).2
theorem ByR.set_ (h : ByR w g n f) {k : Nat} (hk : k < n) (c : UInt8) : ByR (w.setCell ⟨g, k, none⟩ (by8 c)) g n (fun j => if j = k then c else f j) := fun i hi => by
  refine ⟨?_, ?_⟩
  · by_cases e : i = k
    · subst e
      rw [World.cell?_setCell_same _ _ _ (h i hi).1]
      show _ = some (by8 (if i = i then c else f i))
      rw [if_pos rfl]
    · rw [World.cell?_setCell_other _ _ _ _ (by simp [e])]
      show _ = some (by8 (if i = k then c else f i))
      rw [if_neg e]
      exact (h i hi).1
  · rw [World.frozen?_setCell]
    exact (h i hi).2
end
theorem rowW_byR (W : World) (t : ByteArray) : ByR (rowW W t) W.heap.size t.size (fun i => t.data.toList.getD i 0) := fun i hi => by
  refine ⟨?_, rowW_unfrozen W t i hi⟩
  rw [rowW_cell W t i hi]
  congr 2
  show _ = t.data.toList.getD i 0
  rw [List.getD_eq_getElem?_getD, List.getElem?_eq_getElem (show i < t.data.toList.length from hi)]
  rfl

/-- The first k bytes are turned. -/
def mixF (a c : Nat → UInt8) (k : Nat) : Nat → UInt8 := fun j => if j < k then a j ^^^ c j else a j
theorem mixF_zero (a c : Nat → UInt8) : mixF a c 0 = a := by funext j; simp [mixF]
theorem mixF_next (a c : Nat → UInt8) (k j : Nat) : (if j = k then a k ^^^ c k else mixF a c k j) = mixF a c (k + 1) j := by
  unfold mixF
  by_cases e : j = k
  · subst e
    rw [if_pos rfl, if_pos (by omega)]
  · rw [if_neg e]
    by_cases h : j < k
    · rw [if_pos h, if_pos (by omega)]
    · rw [if_neg h, if_neg (by omega)]
theorem mixF_at (a c : Nat → UInt8) (k : Nat) : mixF a c k k = a k := by simp [mixF]
theorem by8_xor {x c : UInt8} : Value.int .u8 ((x.toNat ^^^ c.toNat : Nat) : Int) = by8 (x ^^^ c) := by
  unfold by8
  rw [UInt8.toNat_xor]

theorem min_four (w : World) (ts : Array TypeId) (t : TypeId) (x y z u : Int) : (Builtin.min_ ts t #[.int .i64 x, .int .i64 y, .int .i64 z, .int .i64 u]).run Try.prog w = .ok (.int .i64 (min (min (min x y) z) u)) w := by
  have e : ∀ x y : Int, (if y < x then y else x) = min x y := fun x y => by
    rw [Int.min_def]
    split <;> split <;> omega
  simp [Builtin.min_, Builtin.min2, e]

/-- What the statement with two conversions leaves. -/
def TwoR (w : World) (n : Nat) (fa fb : Nat → UInt8) (x y : Value) (wx : World) : Prop :=
  ∃ gx gy kx ky : Nat, x = .slice (some ⟨gx, 0, none⟩) n kx ∧ y = .slice (some ⟨gy, 0, none⟩) n ky ∧ gx ≠ gy ∧ ByR wx gx n fa ∧ ByR wx gy n fb ∧ Below w.heap.size w wx ∧ w.heap.size ≤ gx ∧ w.heap.size ≤ gy

theorem two_rows (w w1 : World) (hb : Below w.heap.size w w1) (n : Nat) (S T : ByteArray) (hS : S.size = n) (hT : T.size = n) :
    ByR (rowW (rowW w1.drew S) T) w1.heap.size n (fun i => S.data.toList.getD i 0) ∧ ByR (rowW (rowW w1.drew S) T) (w1.heap.size + 1) n (fun i => T.data.toList.getD i 0) ∧ Below w.heap.size w (rowW (rowW w1.drew S) T) := by
  have h1 := rowW_byR w1.drew S
  have h2 := rowW_byR (rowW w1.drew S) T
  rw [hS] at h1
  rw [hT, rowW_size] at h2
  refine ⟨h1.below (rowW_below _ _), h2, ?_⟩
  have b1 : Below w.heap.size w (rowW w1.drew S) := hb.drew.trans ((rowW_below w1.drew S).mono hb.size)
  exact b1.trans ((rowW_below _ T).mono b1.size)
theorem two_left {w w1 : World} (hb : Below w.heap.size w w1) {n k1 k2 : Nat} {S T : ByteArray} (hS : S.size = n) (hT : T.size = n) :
    TwoR w n (fun i => S.data.toList.getD i 0) (fun i => T.data.toList.getD i 0) (.slice (some ⟨w1.heap.size, 0, none⟩) n k1) (.slice (some ⟨w1.heap.size + 1, 0, none⟩) n k2) (rowW (rowW w1.drew S) T) := by
  obtain ⟨h1, h2, h3⟩ := two_rows w w1 hb n S T hS hT
  exact ⟨_, _, k1, k2, rfl, rfl, by omega, h1, h2, h3, hb.size, Nat.le_succ_of_le hb.size⟩
theorem two_right {w w1 : World} (hb : Below w.heap.size w w1) {n k1 k2 : Nat} {S T : ByteArray} (hS : S.size = n) (hT : T.size = n) :
    TwoR w n (fun i => S.data.toList.getD i 0) (fun i => T.data.toList.getD i 0) (.slice (some ⟨w1.heap.size + 1, 0, none⟩) n k1) (.slice (some ⟨w1.heap.size, 0, none⟩) n k2) (rowW (rowW w1.drew T) S) := by
  obtain ⟨h1, h2, h3⟩ := two_rows w w1 hb n T S hT hS
  exact ⟨_, _, k1, k2, rfl, rfl, by omega, h2, h1, h3, Nat.le_succ_of_le hb.size, hb.size⟩

theorem conv_byR {w : World} {g n k : Nat} {f : Nat → UInt8} (h : ByR w g n f) : (convert 36 9 (.slice (some ⟨g, 0, none⟩) n k)).run Try.prog w = .ok (.string ⟨((List.range n).map f).toArray⟩) w := by
  have h1 := run_convert_bytes_back (P := Try.prog) w 36 9 5 ⟨g, 0, none⟩ k ((List.range n).map f) Try.underlying36 Try.underlying5 Try.underlying9 fun j hj => by
    rw [add_none, Nat.zero_add]
    have hjn : j < n := by simpa using hj
    rw [(h j hjn).1]
    simp [by8]
  rw [List.length_map, List.length_range] at h1
  exact h1

/-- What each operation of the last statement yields. -/
def RLin (a b A B X Y : ByteArray) (n gx gy kx ky sa sb sx sy : Nat) : Nat → Value → World → Prop
  | 0, v, _ => v = .string a
  | 1, v, _ => v = .int .i64 n
  | 2, v, _ => v = .string A
  | 3, v, w => Strs w 0 v [A]
  | 4, v, _ => v = .int .i64 sa
  | 5, v, _ => v = .string b
  | 6, v, _ => v = .int .i64 n
  | 7, v, _ => v = .string B
  | 8, v, w => Strs w 0 v [B]
  | 9, v, _ => v = .int .i64 sb
  | 10, v, _ => v = .int .i64 (sa ^^^ sb : Nat)
  | 11, v, _ => v = .slice (some ⟨gx, 0, none⟩) n kx
  | 12, v, _ => v = .string X
  | 13, v, w => Strs w 0 v [X]
  | 14, v, _ => v = .int .i64 sx
  | 15, v, _ => v = .slice (some ⟨gy, 0, none⟩) n ky
  | 16, v, _ => v = .string Y
  | 17, v, w => Strs w 0 v [Y]
  | 18, v, _ => v = .int .i64 sy
  | 19, v, _ => v = .int .i64 (sx ^^^ sy : Nat)
  | 20, v, _ => v = .bool true
  | 21, v, _ => v = .bool true
  | _, _, _ => True
theorem RLin.keep {a b A B X Y : ByteArray} {n gx gy kx ky sa sb sx sy : Nat} : ∀ (i : Nat) (v : Value) (w w' : World), Below w.heap.size w w' → RLin a b A B X Y n gx gy kx ky sa sb sx sy i v w → RLin a b A B X Y n gx gy kx ky sa sb sx sy i v w'
  | 0, _, _, _, _, h | 1, _, _, _, _, h | 2, _, _, _, _, h | 4, _, _, _, _, h | 5, _, _, _, _, h | 6, _, _, _, _, h | 7, _, _, _, _, h | 9, _, _, _, _, h | 10, _, _, _, _, h | 11, _, _, _, _, h | 12, _, _, _, _, h | 14, _, _, _, _, h
  | 15, _, _, _, _, h | 16, _, _, _, _, h | 18, _, _, _, _, h | 19, _, _, _, _, h | 20, _, _, _, _, h | 21, _, _, _, _, h => h
  | 3, _, _, _, hb, h | 8, _, _, _, hb, h | 13, _, _, _, hb, h | 17, _, _, _, hb, h => Strs.below h hb (Nat.le_refl _)
  | _ + 22, _, _, _, _, _ => trivial

theorem alike {A B X Y : ByteArray} {n : Nat} {fa fb fc : Nat → UInt8} (hA : A.size = n) (hB : B.size = n) (hX : X = ⟨((List.range n).map (mixF fa fc n)).toArray⟩) (hY : Y = ⟨((List.range n).map (mixF fb fc n)).toArray⟩)
    (hfa : fa = fun i => A.data.toList.getD i 0) (hfb : fb = fun i => B.data.toList.getD i 0) : crcL A.data.toList ^^^ crcL B.data.toList = crcL X.data.toList ^^^ crcL Y.data.toList := by
  have lA : A.data.toList.length = n := hA
  have lB : B.data.toList.length = n := hB
  subst hX hY
  rw [list_of, list_of]
  refine crcL_alike _ _ _ _ (lA.trans lB.symm) (lA.trans (by simp)) (lA.trans (by simp)) fun i hi => ?_
  have hin : i < n := Nat.lt_of_lt_of_eq hi lA
  have hm : ∀ f : Nat → UInt8, ((List.range n).map f).getD i 0 = f i := fun f => by
    rw [List.getD_eq_getElem?_getD, List.getElem?_map, List.getElem?_range hin]
    rfl
  rw [hm, hm]
  unfold mixF
  rw [if_pos hin, if_pos hin, UInt8.toNat_xor, UInt8.toNat_xor, xor_swap, Nat.xor_self, Nat.xor_zero, hfa, hfb]

attribute [local go_sem] fr_opt
set_option maxRecDepth 100000 in
set_option maxHeartbeats 4000000 in
theorem walk_CrcLinear (a b c : ByteArray) (w : World) (ha : a.size ≤ maxLen) (hb : b.size ≤ maxLen) (hc : c.size ≤ maxLen) :
    Calls Try.prog 6 #[.string a, .string b, .string c] w fun e w' => e = .returned (.bool true) ∧ Below w.heap.size w w' := by
  unfold maxLen at ha hb hc
  go_enter Try.func6, Try.ntmps6
  go_wp2_with fail
  refine (awake_any _).mono ?_
  rintro e w1 ⟨rfl, hb1⟩
  have HB1 := Lib.hid hb1
  clear hb1
  have hmin := min_four w1 #[3, 3, 3, 3] 3 a.size b.size c.size 500
  obtain ⟨n, hn⟩ : ∃ n : Nat, min (min (min (a.size : Int) b.size) c.size) 500 = (n : Int) := ⟨min (min (min a.size b.size) c.size) 500, by omega⟩
  have hna : n ≤ a.size := by omega
  have hnb : n ≤ b.size := by omega
  have hnc : n ≤ c.size := by omega
  have hn5 : n ≤ 500 := by omega
  rw [hn] at hmin
  clear hn
  go_wp2_with fail
  obtain ⟨A, hA⟩ : ∃ A : ByteArray, A = a.extract 0 n := ⟨_, rfl⟩
  obtain ⟨B, hB⟩ : ∃ B : ByteArray, B = b.extract 0 n := ⟨_, rfl⟩
  have hAs : A.size = n := by rw [hA]; simp [ByteArray.size_extract]; omega
  have hBs : B.size = n := by rw [hB]; simp [ByteArray.size_extract]; omega
  have hca : ∀ W, _ := fun W => rowW_conv W A
  have hcb : ∀ W, _ := fun W => rowW_conv W B
  rw [hAs] at hca
  rw [hBs] at hcb
  rw [hA] at hca
  rw [hB] at hcb
  have hsa := fun W => rowW_size W (a.extract 0 n)
  have hsb := fun W => rowW_size W (b.extract 0 n)
  clear hmin
  go_cut [8, 9] from 20 to 27 (fun x y wx => TwoR w n (fun i => A.data.toList.getD i 0) (fun i => B.data.toList.getD i 0) x y wx)
  case first =>
    go_region
    all_goals
      go_wp2_with fail
      go_meet
      rw [← hA, ← hB]
      first | exact two_left HB1.out hAs hBs | exact two_right HB1.out hAs hBs
  case rest =>
    obtain ⟨gx, gy, kx, ky, rfl, rfl, hne, hx, hy, hbc, hgx, hgy⟩ := hcut
    obtain ⟨fa, hfa⟩ : ∃ f : Nat → UInt8, f = fun i => A.data.toList.getD i 0 := ⟨_, rfl⟩
    obtain ⟨fb, hfb⟩ : ∃ f : Nat → UInt8, f = fun i => B.data.toList.getD i 0 := ⟨_, rfl⟩
    obtain ⟨fc, hfc⟩ : ∃ f : Nat → UInt8, f = fun i => c.data.toList.getD i 0 := ⟨_, rfl⟩
    rw [← hfa] at hx
    rw [← hfb] at hy
    have HX := Lib.hid hx
    have HY := Lib.hid hy
    have HBC := Lib.hid hbc
    have HFA := Lib.hid hfa
    have HFB := Lib.hid hfb
    have HFC := Lib.hid hfc
    have HA := Lib.hid hA
    have HB := Lib.hid hB
    have HAS := Lib.hid hAs
    have HBS := Lib.hid hBs
    have HNE := Lib.hid hne
    clear hx hy hbc hfa hfb hfc hA hB hAs hBs hca hcb hsa hsb hne HB1
    go_wp2_with fail
    go_loopw [30] (fun i wr => ∃ k : Nat, k ≤ n ∧ i = .int .i64 k ∧ ByR wr gx n (mixF fa fc k) ∧ ByR wr gy n (mixF fb fc k) ∧ Below w.heap.size w wr) (fun i _ => n - (intOf i).toNat)
    case atStart => exact ⟨0, Nat.zero_le _, rfl, by rw [mixF_zero]; exact HX.out, by rw [mixF_zero]; exact HY.out, HBC.out⟩
    case round =>
      clear HX HY HBC
      obtain ⟨k, hk, rfl, hx, hy, hbr⟩ := hrel
      have HX := Lib.hid hx
      have HY := Lib.hid hy
      have HBR := Lib.hid hbr
      clear hx hy hbr
      by_cases hlt : k < n
      · have hkc : k < c.size := by omega
        obtain ⟨cx, fx⟩ := HX.out k hlt
        rw [mixF_at] at cx
        have hck : c[k] = fc k := by
          rw [HFC.out]
          show _ = c.data.toList.getD k 0
          rw [List.getD_eq_getElem?_getD, List.getElem?_eq_getElem (show k < c.data.toList.length from hkc)]
          rfl
        unfold by8 at cx
        have hxor := u8_xor_nat (fa k).toNat (fc k).toNat (fa k).toNat_lt (fc k).toNat_lt
        have hi0 : (0 : Int) ≤ (k : Int) := by omega
        have hi1 : (k : Int) < (n : Int) := by omega
        have hi2 : (k : Int) < (c.size : Int) := by omega
        go_wp2_with fail
        go_still_tail 9, (by kernel_rfl)
        change wpList _ _ _ _ _ wr.drew
        have hx2 : ByR wr.drew gx n (mixF fa fc k) := HX.out
        have hy2 : ByR wr.drew gy n (mixF fb fc k) := HY.out
        have hb2 : Below w.heap.size w wr.drew := HBR.out.drew
        clear cx fx HX HY HBR
        generalize wr.drew = w2 at hx2 hy2 hb2 ⊢
        obtain ⟨cx, fx⟩ := hx2 k hlt
        have hx3 := hx2.set_ hlt (fa k ^^^ fc k)
        have hy3 := hy2.far (p := ⟨gx, k, none⟩) HNE.out (by8 (fa k ^^^ fc k))
        have hb3 := hb2.setCell (p := ⟨gx, k, none⟩) hgx (by8 (fa k ^^^ fc k))
        rw [← by8_xor] at hx3 hy3 hb3
        rw [mixF_at] at cx
        unfold by8 at cx
        have HX3 := Lib.hid (hx3.congr fun j _ => mixF_next fa fc k j)
        have HY3 := Lib.hid hy3
        have HB3 := Lib.hid hb3
        clear hx2 hy2 hb2 hx3 hy3 hb3
        go_wp2_with fail
        generalize w2.setCell ⟨gx, k, none⟩ (.int .u8 (((fa k).toNat ^^^ (fc k).toNat : Nat) : Int)) = w3 at HX3 HY3 HB3 ⊢
        clear cx fx hxor
        obtain ⟨cy, fy⟩ := HY3.out k hlt
        rw [mixF_at] at cy
        unfold by8 at cy
        have hxor := u8_xor_nat (fb k).toNat (fc k).toNat (fb k).toNat_lt (fc k).toNat_lt
        go_still_tail 9, (by kernel_rfl)
        change wpList _ _ _ _ _ w3.drew
        have hx2 : ByR w3.drew gx n (mixF fa fc (k + 1)) := HX3.out
        have hy2 : ByR w3.drew gy n (mixF fb fc k) := HY3.out
        have hb2 : Below w.heap.size w w3.drew := HB3.out.drew
        clear cy fy HX3 HY3 HB3
        generalize w3.drew = w4 at hx2 hy2 hb2 ⊢
        obtain ⟨cy, fy⟩ := hy2 k hlt
        have hy3 := hy2.set_ hlt (fb k ^^^ fc k)
        have hx3 := hx2.far (p := ⟨gy, k, none⟩) (Ne.symm HNE.out) (by8 (fb k ^^^ fc k))
        have hb3 := hb2.setCell (p := ⟨gy, k, none⟩) hgy (by8 (fb k ^^^ fc k))
        rw [← by8_xor] at hx3 hy3 hb3
        rw [mixF_at] at cy
        unfold by8 at cy
        have HX3 := Lib.hid hx3
        have HY3 := Lib.hid (hy3.congr fun j _ => mixF_next fb fc k j)
        have HB3 := Lib.hid hb3
        clear hx2 hy2 hb2 hx3 hy3 hb3
        go_wp2_with fail
        exact ⟨⟨k + 1, by omega, by go_num, HX3.out, HY3.out, HB3.out⟩, by simp [intOf]; omega⟩
      · have HXN : Hid (ByR wr gx n (mixF fa fc n)) := Lib.hid (by have := HX.out; rwa [show k = n by omega] at this)
        have HYN : Hid (ByR wr gy n (mixF fb fc n)) := Lib.hid (by have := HY.out; rwa [show k = n by omega] at this)
        clear HX HY
        go_wp2_with fail
        obtain ⟨X, hX⟩ : ∃ X : ByteArray, X = ⟨((List.range n).map (mixF fa fc n)).toArray⟩ := ⟨_, rfl⟩
        obtain ⟨Y, hY⟩ : ∃ Y : ByteArray, Y = ⟨((List.range n).map (mixF fb fc n)).toArray⟩ := ⟨_, rfl⟩
        have HEX := Lib.hid hX
        have HEY := Lib.hid hY
        clear hX hY
        have HGN : Hid (∀ u u' : World, (ByR u gx n (mixF fa fc n) ∧ ByR u gy n (mixF fb fc n) ∧ Below w.heap.size w u) → Below u.heap.size u u' → (ByR u' gx n (mixF fa fc n) ∧ ByR u' gy n (mixF fb fc n) ∧ Below w.heap.size w u')) :=
          Lib.hid fun u u' h hb => ⟨h.1.below hb, h.2.1.below hb, h.2.2.trans (hb.mono h.2.2.size)⟩
        have HMA : Hid (∀ t ∈ [A], t.size ≤ maxLen) := Lib.hid fun t ht => by rw [List.mem_singleton] at ht; rw [ht, HAS.out]; unfold maxLen; omega
        have HMB : Hid (∀ t ∈ [B], t.size ≤ maxLen) := Lib.hid fun t ht => by rw [List.mem_singleton] at ht; rw [ht, HBS.out]; unfold maxLen; omega
        have hXs : X.size = n := by rw [HEX.out, size_of]; simp
        have hYs : Y.size = n := by rw [HEY.out, size_of]; simp
        have HMX : Hid (∀ t ∈ [X], t.size ≤ maxLen) := Lib.hid fun t ht => by rw [List.mem_singleton] at ht; rw [ht, hXs]; unfold maxLen; omega
        have HMY : Hid (∀ t ∈ [Y], t.size ≤ maxLen) := Lib.hid fun t ht => by rw [List.mem_singleton] at ht; rw [ht, hYs]; unfold maxLen; omega
        have HALIKE : Hid (crcL A.data.toList ^^^ crcL B.data.toList = crcL X.data.toList ^^^ crcL Y.data.toList) := Lib.hid (alike HAS.out HBS.out HEX.out HEY.out HFA.out HFB.out)
        clear hXs hYs
        refine region_inv' (n := 73) rfl rfl (by kernel_rfl) (by kernel_rfl) (RLin a b A B X Y n gx gy kx ky (crcL A.data.toList) (crcL B.data.toList) (crcL X.data.toList) (crcL Y.data.toList))
          (fun w' => ByR w' gx n (mixF fa fc n) ∧ ByR w' gy n (mixF fb fc n) ∧ Below w.heap.size w w') (fun w w' => Below w.heap.size w w') (fun w => Below.refl _ _) RLin.keep ⟨HXN.out, HYN.out, HBR.out.drew⟩ ?_ ?_
        · simp only [AllAt]
          refine ⟨?_, ?_, ?_, ?_, ?_, ?_, ?_, ?_, ?_, ?_, ?_, ?_, ?_, ?_, ?_, ?_, ?_, ?_, ?_, ?_, ?_, ?_, trivial⟩
          · refine StepAt.plain rfl ?_
            intro f w' hG hfr hp K hK
            have g0 : f 0 = .string a := hfr 0 (by kernel_rfl)
            clear hfr hp
            go_simp
            exact hK _ _ rfl hG (Below.refl _ _)
          · refine StepAt.plain rfl ?_
            intro f w' hG hfr hp K hK
            have g0 : f 7 = .int .i64 n := hfr 7 (by kernel_rfl)
            clear hfr hp
            go_simp
            exact hK _ _ rfl hG (Below.refl _ _)
          · refine StepAt.plain rfl ?_
            intro f w' hG hfr hp K hK
            have g0 : f 52 = .string a := hp 0 _ 52 rfl rfl (by kernel_rfl)
            have g1 : f 53 = .int .i64 n := hp 1 _ 53 rfl rfl (by kernel_rfl)
            clear hfr hp
            go_simp
            rw [← HA.out]
            exact hK _ _ rfl hG (Below.refl _ _)
          · refine StepAt.plain rfl ?_
            intro f w' hG hfr hp K hK
            have g0 : f 54 = .string A := hp 2 _ 54 rfl rfl (by kernel_rfl)
            clear hfr hp
            go_simp
            have hb : Below w'.heap.size w' (w'.alloc (.cells #[.string A] 9)) := (Below.refl _ _).alloc (Nat.le_refl _) _
            exact hK _ _ (strs_one w' A) (HGN.out _ _ hG hb) hb
          · refine StepAt.plain rfl ?_
            intro f w' hG hfr hp K hK
            have g0 : Strs w' 0 (f 55) [A] := hp 3 _ 55 rfl rfl (by kernel_rfl)
            clear hfr hp
            go_simp
            refine (sumF_any _ [A] _ g0 (by unfold maxLen; simp) HMA.out).mono ?_
            rintro e w2 ⟨rfl, hb⟩
            rw [flatB_one]
            exact hK _ _ rfl (HGN.out _ _ hG hb) hb
          · refine StepAt.plain rfl ?_
            intro f w' hG hfr hp K hK
            have g0 : f 1 = .string b := hfr 1 (by kernel_rfl)
            clear hfr hp
            go_simp
            exact hK _ _ rfl hG (Below.refl _ _)
          · refine StepAt.plain rfl ?_
            intro f w' hG hfr hp K hK
            have g0 : f 7 = .int .i64 n := hfr 7 (by kernel_rfl)
            clear hfr hp
            go_simp
            exact hK _ _ rfl hG (Below.refl _ _)
          · refine StepAt.plain rfl ?_
            intro f w' hG hfr hp K hK
            have g0 : f 57 = .string b := hp 5 _ 57 rfl rfl (by kernel_rfl)
            have g1 : f 58 = .int .i64 n := hp 6 _ 58 rfl rfl (by kernel_rfl)
            clear hfr hp
            go_simp
            rw [← HB.out]
            exact hK _ _ rfl hG (Below.refl _ _)
          · refine StepAt.plain rfl ?_
            intro f w' hG hfr hp K hK
            have g0 : f 59 = .string B := hp 7 _ 59 rfl rfl (by kernel_rfl)
            clear hfr hp
            go_simp
            have hb : Below w'.heap.size w' (w'.alloc (.cells #[.string B] 9)) := (Below.refl _ _).alloc (Nat.le_refl _) _
            exact hK _ _ (strs_one w' B) (HGN.out _ _ hG hb) hb
          · refine StepAt.plain rfl ?_
            intro f w' hG hfr hp K hK
            have g0 : Strs w' 0 (f 60) [B] := hp 8 _ 60 rfl rfl (by kernel_rfl)
            clear hfr hp
            go_simp
            refine (sumF_any _ [B] _ g0 (by unfold maxLen; simp) HMB.out).mono ?_
            rintro e w2 ⟨rfl, hb⟩
            rw [flatB_one]
            exact hK _ _ rfl (HGN.out _ _ hG hb) hb
          · refine StepAt.plain rfl ?_
            intro f w' hG hfr hp K hK
            have g0 : f 56 = .int .i64 (crcL A.data.toList : Nat) := hp 4 _ 56 rfl rfl (by kernel_rfl)
            have g1 : f 61 = .int .i64 (crcL B.data.toList : Nat) := hp 9 _ 61 rfl rfl (by kernel_rfl)
            clear hfr hp
            have hx := i64_xor_nat (crcL A.data.toList) (crcL B.data.toList) (by have := crcL_lt A.data.toList; omega) (by have := crcL_lt B.data.toList; omega)
            go_simp
            exact hK _ _ rfl hG (Below.refl _ _)
          · refine StepAt.plain rfl ?_
            intro f w' hG hfr hp K hK
            have g0 : f 8 = .slice (some ⟨gx, 0, none⟩) n kx := hfr 8 (by kernel_rfl)
            clear hfr hp
            go_simp
            exact hK _ _ rfl hG (Below.refl _ _)
          · refine StepAt.plain rfl ?_
            intro f w' hG hfr hp K hK
            have g0 : f 63 = .slice (some ⟨gx, 0, none⟩) n kx := hp 11 _ 63 rfl rfl (by kernel_rfl)
            clear hfr hp
            have hcv := conv_byR (k := kx) hG.1
            rw [← HEX.out] at hcv
            go_simp
            exact hK _ _ rfl hG (Below.refl _ _)
          · refine StepAt.plain rfl ?_
            intro f w' hG hfr hp K hK
            have g0 : f 64 = .string X := hp 12 _ 64 rfl rfl (by kernel_rfl)
            clear hfr hp
            go_simp
            have hb : Below w'.heap.size w' (w'.alloc (.cells #[.string X] 9)) := (Below.refl _ _).alloc (Nat.le_refl _) _
            exact hK _ _ (strs_one w' X) (HGN.out _ _ hG hb) hb
          · refine StepAt.plain rfl ?_
            intro f w' hG hfr hp K hK
            have g0 : Strs w' 0 (f 65) [X] := hp 13 _ 65 rfl rfl (by kernel_rfl)
            clear hfr hp
            go_simp
            refine (sumF_any _ [X] _ g0 (by unfold maxLen; simp) HMX.out).mono ?_
            rintro e w2 ⟨rfl, hb⟩
            rw [flatB_one]
            exact hK _ _ rfl (HGN.out _ _ hG hb) hb
          · refine StepAt.plain rfl ?_
            intro f w' hG hfr hp K hK
            have g0 : f 9 = .slice (some ⟨gy, 0, none⟩) n ky := hfr 9 (by kernel_rfl)
            clear hfr hp
            go_simp
            exact hK _ _ rfl hG (Below.refl _ _)
          · refine StepAt.plain rfl ?_
            intro f w' hG hfr hp K hK
            have g0 : f 67 = .slice (some ⟨gy, 0, none⟩) n ky := hp 15 _ 67 rfl rfl (by kernel_rfl)
            clear hfr hp
            have hcv := conv_byR (k := ky) hG.2.1
            rw [← HEY.out] at hcv
            go_simp
            exact hK _ _ rfl hG (Below.refl _ _)
          · refine StepAt.plain rfl ?_
            intro f w' hG hfr hp K hK
            have g0 : f 68 = .string Y := hp 16 _ 68 rfl rfl (by kernel_rfl)
            clear hfr hp
            go_simp
            have hb : Below w'.heap.size w' (w'.alloc (.cells #[.string Y] 9)) := (Below.refl _ _).alloc (Nat.le_refl _) _
            exact hK _ _ (strs_one w' Y) (HGN.out _ _ hG hb) hb
          · refine StepAt.plain rfl ?_
            intro f w' hG hfr hp K hK
            have g0 : Strs w' 0 (f 69) [Y] := hp 17 _ 69 rfl rfl (by kernel_rfl)
            clear hfr hp
            go_simp
            refine (sumF_any _ [Y] _ g0 (by unfold maxLen; simp) HMY.out).mono ?_
            rintro e w2 ⟨rfl, hb⟩
            rw [flatB_one]
            exact hK _ _ rfl (HGN.out _ _ hG hb) hb
          · refine StepAt.plain rfl ?_
            intro f w' hG hfr hp K hK
            have g0 : f 66 = .int .i64 (crcL X.data.toList : Nat) := hp 14 _ 66 rfl rfl (by kernel_rfl)
            have g1 : f 70 = .int .i64 (crcL Y.data.toList : Nat) := hp 18 _ 70 rfl rfl (by kernel_rfl)
            clear hfr hp
            have hx := i64_xor_nat (crcL X.data.toList) (crcL Y.data.toList) (by have := crcL_lt X.data.toList; omega) (by have := crcL_lt Y.data.toList; omega)
            go_simp
            exact hK _ _ rfl hG (Below.refl _ _)
          · refine StepAt.plain rfl ?_
            intro f w' hG hfr hp K hK
            have g0 : f 62 = .int .i64 (crcL A.data.toList ^^^ crcL B.data.toList : Nat) := hp 10 _ 62 rfl rfl (by kernel_rfl)
            have g1 : f 71 = .int .i64 (crcL X.data.toList ^^^ crcL Y.data.toList : Nat) := hp 19 _ 71 rfl rfl (by kernel_rfl)
            clear hfr hp
            rw [HALIKE.out] at g0
            go_simp
            exact hK _ _ rfl hG (Below.refl _ _)
          · refine StepAt.plain rfl ?_
            intro f w' hG hfr hp K hK
            have g0 : f 72 = .bool true := hp 20 _ 72 rfl rfl (by kernel_rfl)
            clear hfr hp
            go_simp
            exact hK _ _ rfl hG (Below.refl _ _)
        · intro f w' hG hfr hR
          have g6 : f 6 = .bool true := hR 21 _ 6 rfl rfl
          have HBE := Lib.hid hG.2.2
          clear hfr hR hG
          go_wp2_with fail
          go_ret
          refine ⟨?_, HBE.out⟩
          show Ending.returned ((Fr 73 f).tmps.getD 6 undef) = _
          rw [fr_get (by decide), g6]
end Go.Proofs.Ytnghbgedbheodaa
