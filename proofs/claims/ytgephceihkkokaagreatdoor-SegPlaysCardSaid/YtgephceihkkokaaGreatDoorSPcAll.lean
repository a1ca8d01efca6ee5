/-
  SPcA, SPc0, SPc1, SPc2, SPc3, SPc4, SPc5, SPc6, in one text.
-/
import Derived.Test.YtgephceihkkokaaGreatDoorSPlayAll
/-! ### SPcA -/
namespace Go.Proofs.YtgephceihkkokaaGreatDoor
open Go.RowKit Go.Deep
set_option linter.unusedVariables false
set_option linter.unusedSimpArgs false
attribute [local go_sem] fr_opt

def xC (B : List UInt8) (bg : Nat) (sy : Int) (any : Bool) : Obj := .cells #[.string ⟨B.toArray⟩, .int .i64 (bg : Int), .int .i64 sy, .bool any] 31 (0, 0)
def oC (x : OpR) : Obj := .cells #[.int .i64 x.k, .int .i64 x.a, .int .i64 x.n, .string x.s] 33 (0, 0)
/-- A row that is played, what the law holds beside it, and the call that is done. -/
def PX (w0 w : World) (b d n z i0 : Nat) (B : List UInt8) (sy : Int) (any : Bool) (K K2 : Nat) (x : OpR) : Prop := PlayX w0 w b d n z i0 B sy any [(K, xC B (z * i0) sy any), (K2, oC x)] ∧ K ≠ K2
theorem PX.new {w0 w w' : World} {b d n z i0 : Nat} {B : List UInt8} {sy : Int} {any : Bool} {K K2 : Nat} {x : OpR} (h : PX w0 w b d n z i0 B sy any K K2 x) (hc : Chg (fun _ => False) w w') : PX w0 w' b d n z i0 B sy any K K2 x := ⟨h.1.new hc, h.2⟩
theorem PX.more {w0 w : World} {b d n n' z i0 : Nat} {B : List UInt8} {sy : Int} {any : Bool} {K K2 : Nat} {x : OpR} (h : PX w0 w b d n z i0 B sy any K K2 x) (hn : n ≤ n') : PX w0 w b d n' z i0 B sy any K K2 x := ⟨h.1.more hn, h.2⟩
/-- What the law's two blocks hold. -/
structure XCells (w : World) (K K2 : Nat) (s : ByteArray) (bg : Nat) (sy : Int) (any : Bool) (x : OpR) : Prop where
  x0 : w.cell? ⟨K, 0, none⟩ = some (.string s)
  x1 : w.cell? ⟨K, 1, none⟩ = some (.int .i64 (bg : Int))
  x2 : w.cell? ⟨K, 2, none⟩ = some (.int .i64 sy)
  x3 : w.cell? ⟨K, 3, none⟩ = some (.bool any)
  o0 : w.cell? ⟨K2, 0, none⟩ = some (.int .i64 x.k)
  o1 : w.cell? ⟨K2, 1, none⟩ = some (.int .i64 x.a)
  o2 : w.cell? ⟨K2, 2, none⟩ = some (.int .i64 x.n)
  o3 : w.cell? ⟨K2, 3, none⟩ = some (.string x.s)
  z : ∀ q, w.frozen? ⟨K, q, none⟩ = false
theorem PlayX.xcells {w0 w : World} {b d n z i0 : Nat} {B : List UInt8} {sy : Int} {any : Bool} {K K2 : Nat} {s : ByteArray} {bg : Nat} {sx : Int} {ax : Bool} {x : OpR} (h : PlayX w0 w b d n z i0 B sy any [(K, .cells #[.string s, .int .i64 (bg : Int), .int .i64 sx, .bool ax] 31 (0, 0)), (K2, oC x)]) : XCells w K K2 s bg sx ax x := by
  have h1 := h.at_ (p := (K, _)) (List.mem_cons_self ..)
  have h2 := h.at_ (p := (K2, oC x)) (List.mem_cons_of_mem _ (List.mem_cons_self ..))
  simp only [oC] at h1 h2
  refine ⟨?_, ?_, ?_, ?_, ?_, ?_, ?_, ?_, fun q => ?_⟩ <;> first | (unfold World.cell?; simp only [h1]; rfl) | (unfold World.cell?; simp only [h2]; rfl) | simp [World.frozen?, h1]
theorem XCells.new {w w' : World} {K K2 : Nat} {s : ByteArray} {bg : Nat} {sy : Int} {any : Bool} {x : OpR} (h : XCells w K K2 s bg sy any x) (hb : Below w.heap.size w w') : XCells w' K K2 s bg sy any x := by
  have hc : Chg (fun _ => False) w w' := Chg.of_below hb
  exact ⟨hc.cell h.x0 (fun x => x), hc.cell h.x1 (fun x => x), hc.cell h.x2 (fun x => x), hc.cell h.x3 (fun x => x), hc.cell h.o0 (fun x => x), hc.cell h.o1 (fun x => x), hc.cell h.o2 (fun x => x), hc.cell h.o3 (fun x => x), fun q => by
    have h0 := h.z q
    unfold World.frozen? at h0 ⊢
    have := hb.block K (World.block_lt_of_cell? _ _ h.x0)
    rw [this]
    exact h0⟩
theorem rowend_E (s : ByteArray) (bg E : Nat) (sy : Int) (any : Bool) (hE : E = bg + s.size) (h : E ≤ 1000000000) (w : World) :
    Calls Tryz.prog 11 #[.agg #[.string s, .int .i64 (bg : Int), .int .i64 sy, .bool any]] w fun e w' => e = .returned (.int .i64 (E : Int)) ∧ Below w.heap.size w w' := by
  have := rowend_any s (bg : Int) sy any w (by omega) (by omega) (by omega)
  rw [hE]
  exact this
theorem str_some {s : ByteArray} (h : s.size ≠ 0) : s.toList.isEmpty = false := by
  rw [List.isEmpty_eq_false_iff]
  intro hx
  apply h
  rw [ByteArray.toList_eq] at hx
  have := congrArg List.length hx
  rw [Array.length_toList] at this
  exact this
theorem str_none {s : ByteArray} (h : s.size = 0) : s.toList.isEmpty = true := by
  have : s.toList = [] := by rw [ByteArray.toList_eq]; exact List.length_eq_zero_iff.1 (by rw [Array.length_toList]; exact h)
  rw [this]; rfl
theorem xcells_of {w0 w : World} {b d n z i0 j0 : Nat} {B B0 : List UInt8} {sy sx : Int} {any ax : Bool} {K K2 : Nat} {s : ByteArray} {bg : Nat} {x : OpR} (h : PlayX w0 w b d n z i0 B sy any [(K, xC B0 j0 sx ax), (K2, oC x)]) (hs : s = ⟨B0.toArray⟩) (hbg : bg = j0) : XCells w K K2 s bg sx ax x := by
  subst hs hbg
  exact h.xcells
/-- What Read is asked lies within the row, and within a segment. -/
def InR (z bg E : Nat) (a n : Int) : Prop := (bg : Int) ≤ a ∧ a ≤ (E : Int) ∧ 0 ≤ n ∧ n ≤ (E : Int) - a ∧ (n = 0 ∨ n ≤ (z : Int) - a % (z : Int))
def ReadR (z i0 : Nat) (B : List UInt8) (a k : Int) (w : World) (e : Ending) (w' : World) : Prop := ∃ (rs : ByteArray) (rf : Int), e = .returned (.tuple #[.string rs, .int .i64 rf]) ∧ Below w.heap.size w w' ∧
  (InR z (z * i0) (z * i0 + B.length) a k → rf = 0 ∧ rs = ⟨((B.drop (a.toNat - z * i0)).take k.toNat).toArray⟩) ∧ (¬ InR z (z * i0) (z * i0 + B.length) a k → rf = 2 ∧ rs = ⟨#[]⟩)
theorem playx_read {w0 w : World} {b d n z i0 : Nat} {B : List UInt8} {sy : Int} {any : Bool} (h : Play w0 w b d n z i0 B sy any) (a k : Int) :
    Calls Tryz.prog 13 #[.pointer (some ⟨b, 0, none⟩), .int .i64 a, .int .i64 k] w (ReadR z i0 B a k w) := by
  by_cases hin : InR z (z * i0) (z * i0 + B.length) a k
  · obtain ⟨h1, h2, h3, h4, h5⟩ := id hin
    by_cases hk : k = 0
    · subst hk
      refine (play_read_zero h a h1 h2).mono ?_
      rintro e w' ⟨rfl, rfl⟩
      exact ⟨_, _, rfl, Below.refl _ _, fun _ => ⟨rfl, by simp⟩, fun hx => absurd hin hx⟩
    · obtain ⟨A, rfl⟩ : ∃ A : Nat, a = (A : Int) := ⟨a.toNat, by omega⟩
      obtain ⟨m, rfl⟩ : ∃ m : Nat, k = (m : Int) := ⟨k.toNat, by omega⟩
      have hmod : (A : Int) % (z : Int) = ((A % z : Nat) : Int) := (Int.natCast_emod A z).symm
      have hz := h.bounds.1
      have hml := Nat.mod_lt A (show 0 < z by omega)
      refine (play_read_in h A m (by omega) (by omega) (by omega) (by rw [hmod] at h5; omega)).mono ?_
      rintro e w' ⟨rfl, hb⟩
      exact ⟨_, _, rfl, hb, fun _ => ⟨rfl, by simp⟩, fun hx => absurd hin hx⟩
  · refine (play_read_bad h a k ?_).mono ?_
    · unfold InR at hin
      by_cases c1 : a < ((z * i0 : Nat) : Int)
      · exact .inl c1
      by_cases c2 : ((z * i0 + B.length : Nat) : Int) < a
      · exact .inr (.inl c2)
      by_cases c3 : k < 0
      · exact .inr (.inr (.inl c3))
      by_cases c4 : ((z * i0 + B.length : Nat) : Int) - a < k
      · exact .inr (.inr (.inr (.inl c4)))
      by_cases c5 : k ≠ 0 ∧ (z : Int) - a % (z : Int) < k
      · exact .inr (.inr (.inr (.inr c5)))
      · exfalso
        apply hin
        refine ⟨by omega, by omega, by omega, by omega, ?_⟩
        by_cases c6 : k = 0
        · exact .inl c6
        · exact .inr (by
            obtain ⟨r, hr⟩ : ∃ r, r = a % (z : Int) := ⟨_, rfl⟩
            rw [← hr] at c5 ⊢
            omega)
    · rintro e w' ⟨rfl, q, rfl⟩
      exact ⟨_, _, rfl, below_drewN (Below.refl _ _) q, fun hx => absurd hx hin, fun _ => ⟨rfl, rfl⟩⟩
/-- The law's cut of its text. -/
theorem cut_ext (B : List UInt8) (D M : Nat) (h : D ≤ M) : (⟨B.toArray⟩ : ByteArray).extract D M = ⟨((B.drop D).take (M - D)).toArray⟩ := by
  apply ByteArray.ext
  apply Array.toList_inj.1
  rw [ByteArray.data_extract, Array.toList_extract, List.extract_eq_take_drop]
set_option maxRecDepth 100000 in
theorem fr_lit380 (f : Nat → Value) : Fr 380 f = ⟨#[f 0, f 1, f 2, f 3, f 4, f 5, f 6, f 7, f 8, f 9, f 10, f 11, f 12, f 13, f 14, f 15, f 16, f 17, f 18, f 19, f 20, f 21, f 22, f 23, f 24, f 25, f 26, f 27, f 28, f 29, f 30, f 31, f 32, f 33, f 34, f 35, f 36, f 37, f 38, f 39, f 40, f 41, f 42, f 43, f 44, f 45, f 46, f 47, f 48, f 49, f 50, f 51, f 52, f 53, f 54, f 55, f 56, f 57, f 58, f 59, f 60, f 61, f 62, f 63, f 64, f 65, f 66, f 67, f 68, f 69, f 70, f 71, f 72, f 73, f 74, f 75, f 76, f 77, f 78, f 79, f 80, f 81, f 82, f 83, f 84, f 85, f 86, f 87, f 88, f 89, f 90, f 91, f 92, f 93, f 94, f 95, f 96, f 97, f 98, f 99, f 100, f 101, f 102, f 103, f 104, f 105, f 106, f 107, f 108, f 109, f 110, f 111, f 112, f 113, f 114, f 115, f 116, f 117, f 118, f 119, f 120, f 121, f 122, f 123, f 124, f 125, f 126, f 127, f 128, f 129, f 130, f 131, f 132, f 133, f 134, f 135, f 136, f 137, f 138, f 139, f 140, f 141, f 142, f 143, f 144, f 145, f 146, f 147, f 148, f 149, f 150, f 151, f 152, f 153, f 154, f 155, f 156, f 157, f 158, f 159, f 160, f 161, f 162, f 163, f 164, f 165, f 166, f 167, f 168, f 169, f 170, f 171, f 172, f 173, f 174, f 175, f 176, f 177, f 178, f 179, f 180, f 181, f 182, f 183, f 184, f 185, f 186, f 187, f 188, f 189, f 190, f 191, f 192, f 193, f 194, f 195, f 196, f 197, f 198, f 199, f 200, f 201, f 202, f 203, f 204, f 205, f 206, f 207, f 208, f 209, f 210, f 211, f 212, f 213, f 214, f 215, f 216, f 217, f 218, f 219, f 220, f 221, f 222, f 223, f 224, f 225, f 226, f 227, f 228, f 229, f 230, f 231, f 232, f 233, f 234, f 235, f 236, f 237, f 238, f 239, f 240, f 241, f 242, f 243, f 244, f 245, f 246, f 247, f 248, f 249, f 250, f 251, f 252, f 253, f 254, f 255, f 256, f 257, f 258, f 259, f 260, f 261, f 262, f 263, f 264, f 265, f 266, f 267, f 268, f 269, f 270, f 271, f 272, f 273, f 274, f 275, f 276, f 277, f 278, f 279, f 280, f 281, f 282, f 283, f 284, f 285, f 286, f 287, f 288, f 289, f 290, f 291, f 292, f 293, f 294, f 295, f 296, f 297, f 298, f 299, f 300, f 301, f 302, f 303, f 304, f 305, f 306, f 307, f 308, f 309, f 310, f 311, f 312, f 313, f 314, f 315, f 316, f 317, f 318, f 319, f 320, f 321, f 322, f 323, f 324, f 325, f 326, f 327, f 328, f 329, f 330, f 331, f 332, f 333, f 334, f 335, f 336, f 337, f 338, f 339, f 340, f 341, f 342, f 343, f 344, f 345, f 346, f 347, f 348, f 349, f 350, f 351, f 352, f 353, f 354, f 355, f 356, f 357, f 358, f 359, f 360, f 361, f 362, f 363, f 364, f 365, f 366, f 367, f 368, f 369, f 370, f 371, f 372, f 373, f 374, f 375, f 376, f 377, f 378, f 379], []⟩ := rfl
theorem lit_fr380 (l : List Value) (h : l.length = 380) : (⟨l.toArray, []⟩ : Act) = Fr 380 (fun t => l.getD t undef) := by
  unfold Fr
  congr 2
  apply List.ext_getElem
  · simp [h]
  · intro i h1 h2
    simp [h1]
/-- Parts of a function's text. -/
def findB (n : Nat) : Code → Option Code
  | .block m c => if m = n then some (.block m c) else findB n c
  | .seq a b => match findB n a with
    | some c => some c
    | none => findB n b
  | .loop c => findB n c
  | .scope c => findB n c
  | _ => none
def endsB (n : Nat) : Code → Bool
  | .block m _ => m == n
  | .seq _ b => endsB n b
  | _ => false
def aftB (n : Nat) : Code → Option Code
  | .seq a b => if endsB n a then some b else match aftB n a with
    | some c => some c
    | none => aftB n b
  | .block _ c => aftB n c
  | .loop c => aftB n c
  | .scope c => aftB n c
  | _ => none
def inB : Code → Code
  | .block _ c => c
  | c => c
noncomputable def swC : Code := (Tryz.f3.body.bind (findB 2)).getD .skip
noncomputable def tlC : Code := (((Tryz.f3.body.bind (findB 1)).map inB).bind (aftB 2)).getD .skip
/-- What stands behind a call of the switch. -/
def Went (w1 : World) (d n z K K2 : Nat) (x : OpR) (r : Value) (w : World) : Prop := ∃ b i0 B sy any, r = .pointer (some ⟨b, 0, none⟩) ∧ PX w1 w b d n z i0 B sy any K K2 x

/-- The frame behind the switch: what the rest reads of it. -/
def SwI (f : Nat → Value) (w1 : World) (d n z K K2 : Nat) (x : OpR) (a : Act) (w : World) : Prop := ∃ f', a = Fr 380 f' ∧ f' 0 = f 0 ∧ f' 1 = f 1 ∧ f' 5 = f 5 ∧ f' 8 = f 8 ∧ f' 10 = f 10 ∧ f' 51 = f 51 ∧ f' 52 = f 52 ∧ f' 53 = f 53 ∧ Went w1 d n z K K2 x (f' 6) w
/-- What holds where the switch begins. -/
structure SwIn (f : Nat → Value) (w1 w : World) (b d k z i0 : Nat) (B : List UInt8) (sy : Int) (any : Bool) (K K2 : Nat) (s : ByteArray) (bg E R : Nat) (x : OpR) : Prop where
  f0 : f 0 = .int .i64 (z : Int)
  f5 : f 5 = .pointer (some ⟨d, 0, none⟩)
  f6 : f 6 = .pointer (some ⟨b, 0, none⟩)
  f8 : f 8 = .pointer (some ⟨K, 0, none⟩)
  f10 : f 10 = .pointer (some ⟨K2, 0, none⟩)
  f11 : f 11 = .int .i64 ((z : Int) - (R : Int))
  f68 : f 68 = .int .i64 x.k
  px : PX w1 w b d (2 * k) z i0 B sy any K K2 x
  hk : k < 100
  hs : s = ⟨B.toArray⟩
  hss : s.size = B.length
  hbg : bg = z * i0
  hE : E = bg + s.size
  hR : R = E % z
  z1 : 16 ≤ z
  z2 : z ≤ 4096
  hE9 : E ≤ 99000000
  hxs : x.s.size ≤ 300
theorem SwIn.end_ {f : Nat → Value} {w1 w : World} {b d k z i0 : Nat} {B : List UInt8} {sy : Int} {any : Bool} {K K2 : Nat} {s : ByteArray} {bg E R : Nat} {x : OpR} (h : SwIn f w1 w b d k z i0 B sy any K K2 s bg E R x) (W : World) :
    Calls Tryz.prog 11 #[.agg #[.string s, .int .i64 (bg : Int), .int .i64 sy, .bool any]] W fun e w' => e = .returned (.int .i64 (E : Int)) ∧ Below W.heap.size W w' := rowend_E s bg E sy any h.hE (by have := h.hE9; omega) W
end Go.Proofs.YtgephceihkkokaaGreatDoor

/-! ### SPc0 -/
namespace Go.Proofs.YtgephceihkkokaaGreatDoor
open Go.RowKit Go.Deep
set_option linter.unusedVariables false
set_option linter.unusedSimpArgs false
attribute [local go_sem] fr_opt
set_option maxHeartbeats 16000000 in
set_option maxRecDepth 100000 in
theorem sw_0 (f : Nat → Value) (w1 w4 : World) (b d k z i0 : Nat) (B : List UInt8) (sy : Int) (any : Bool) (K K2 : Nat) (s : ByteArray) (bg E R : Nat) (x : OpR) (h : SwIn f w1 w4 b d k z i0 B sy any K K2 s bg E R x) (J : Act → World → Prop) (Q : Exit → Act → World → Prop) (hJ : ∀ a w, SwI f w1 d (2 * k + 2) z K K2 x a w → J a w) (k0 : x.k = 0) :
    Code.wp Tryz.prog swC (Exit.then J Q) (Fr 380 f) w4 := by
  obtain ⟨f0, f5, f6, f8, f10, f11, f68, hpx, hk, hs, hss, hbg, hE, hR, hz1, hz2, hE9, hxs⟩ := id h
  have HEND := Lib.hid (fun W => h.end_ W)
  have hRz : R < z := by rw [hR]; exact Nat.mod_lt _ (by omega)
  have hbg9 : bg ≤ 99000000 := by omega
  have hss9 : s.size ≤ 99000000 := by omega
  have hbg9 : bg ≤ 99000000 := by omega
  have hss9 : s.size ≤ 99000000 := by omega
  have hz7 : ¬ (z : Int) = 0 := by omega
  have hz8 : ((z : Int) == 0) = false := by simpa using hz7
  have HP4 := Lib.hid hpx
  have HX4 : Hid (XCells w4 K K2 s bg sy any x) := Lib.hid (xcells_of hpx.1 hs hbg)
  have HS := Lib.hid hs
  have HSS := Lib.hid hss
  have HBG := Lib.hid hbg
  have HE := Lib.hid hE
  have HR := Lib.hid hR
  clear h hpx hs hss hbg hE hR
  obtain ⟨xk, xa, xn, xs⟩ := x
  simp only at hxs f68
  obtain ⟨x0, x1, x2, x3, o0', o1', o2', o3', zz⟩ := HX4.out
  simp only at o0' o1' o2' o3'
  clear zz
  have HJ := Lib.hid hJ
  clear hJ
  rw [fr_lit380 f, f0, f5, f6, f8, f10, f11, f68]
  simp only at k0
  conv => arg 2; whnf
  subst k0
  by_cases hg : xs.size ≠ 0 ∧ xs.size ≤ z - R
  · have hc := playx_append HP4.out.1 (by omega) xs hg.1 (by rw [← HBG.out, ← HSS.out, ← HE.out, ← HR.out]; exact hg.2)
    rw [← HBG.out, ← HSS.out, ← HE.out] at hc
    have HC := Lib.hid hc
    have hge : xs.toList.isEmpty = false := str_some hg.1
    have hle : ¬ ((z : Int) - (R : Int) < (xs.size : Int)) := by omega
    have hle2 : decide ((z : Int) - (R : Int) < (xs.size : Int)) = false := decide_eq_false hle
    clear hc
    go_wp2_with fail
    refine HC.out.mono ?_
    rintro e w5 ⟨rfl, hp5⟩
    have HP5 := Lib.hid hp5
    have HX5 : Hid (XCells w5 K K2 s bg sy any ⟨0, xa, xn, xs⟩) := Lib.hid (xcells_of hp5 HS.out (by first | rfl | exact HBG.out))
    clear hp5 x0 x1 x2 x3 o0' o1' o2' o3'
    obtain ⟨x0, x1, x2, x3, o0', o1', o2', o3', zz⟩ := HX5.out
    simp only at o0' o1' o2' o3'
    clear zz
    go_wp2_with fail
    refine (HEND.out _).mono ?_
    rintro e w6 ⟨rfl, hb6⟩
    have HX6 := Lib.hid (HX5.out.new hb6)
    have HP6 := Lib.hid (HP5.out.new (Chg.of_below hb6))
    clear hb6 x0 x1 x2 x3 o0' o1' o2' o3'
    obtain ⟨x0, x1, x2, x3, o0', o1', o2', o3', zz⟩ := HX6.out
    simp only at o0' o1' o2' o3'
    have z0 := zz 0
    have z3 := zz 3
    clear zz
    obtain ⟨t, ht⟩ : ∃ t : ByteArray, t = ⟨(B ++ xs.data.toList).toArray⟩ := ⟨_, rfl⟩
    have hadd : ∀ W, (Op.stringOp .add s xs).run Tryz.prog W = .ok (.string t) W := fun W => by
      rw [run_string_add_sum W s xs (by have := HE.out; omega), ht, HS.out, ← append_toArray]
    have HT9 := Lib.hid ht
    clear ht
    go_wp2_with fail
    refine HJ.out _ _ ⟨_, lit_fr380 _ rfl, f0.symm, rfl, f5.symm, f8.symm, f10.symm, rfl, rfl, rfl, ?rel⟩
    case rel =>
      have h1 := (HP6.out.set (fun p hp => by rw [List.mem_singleton] at hp; subst hp; exact Ne.symm HP4.out.2) 0 (.string t)).set (fun p hp => by rw [List.mem_singleton] at hp; subst hp; exact Ne.symm HP4.out.2) 3 (.bool true)
      refine ⟨b, i0, B ++ xs.data.toList, sy, true, rfl, ?_, HP4.out.2⟩
      rw [HT9.out] at h1 ⊢
      rw [HBG.out] at h1
      exact h1
  · have hbd : xs.size = 0 ∨ z - R < xs.size := by omega
    have hc := playx_append_bad HP4.out.1 xs (by rw [← HBG.out, ← HSS.out, ← HE.out, ← HR.out]; exact hbd) (by unfold maxLen; omega)
    have HC := Lib.hid hc
    have hsp : xs.toList.isEmpty = true ∨ (xs.toList.isEmpty = false ∧ (z : Int) - (R : Int) < (xs.size : Int)) := by
      rcases Nat.eq_zero_or_pos xs.size with h | h
      · exact .inl (str_none h)
      · exact .inr ⟨str_some (by omega), by omega⟩
    clear hc hbd hg
    go_wp2_with fail
    refine HC.out.mono ?_
    rintro e w5 ⟨rfl, hp5⟩
    have HP5 := Lib.hid hp5
    have HX5 : Hid (XCells w5 K K2 s bg sy any ⟨0, xa, xn, xs⟩) := Lib.hid (xcells_of hp5 HS.out (by first | rfl | exact HBG.out))
    clear hp5 x0 x1 x2 x3 o0' o1' o2' o3'
    obtain ⟨x0, x1, x2, x3, o0', o1', o2', o3', zz⟩ := HX5.out
    simp only at o0' o1' o2' o3'
    clear zz
    rcases hsp with hsp | ⟨hsp, hsp2⟩
    all_goals
      go_wp2_with fail
      refine HJ.out _ _ ⟨_, lit_fr380 _ rfl, f0.symm, rfl, f5.symm, f8.symm, f10.symm, rfl, rfl, rfl, ?rel⟩
      case rel => exact ⟨b, i0, B, sy, any, rfl, ⟨HP5.out.more (by omega), HP4.out.2⟩⟩
end Go.Proofs.YtgephceihkkokaaGreatDoor

/-! ### SPc1 -/
namespace Go.Proofs.YtgephceihkkokaaGreatDoor
open Go.RowKit Go.Deep
set_option linter.unusedVariables false
set_option linter.unusedSimpArgs false
attribute [local go_sem] fr_opt
set_option maxHeartbeats 16000000 in
set_option maxRecDepth 100000 in
theorem sw_1 (f : Nat → Value) (w1 w4 : World) (b d k z i0 : Nat) (B : List UInt8) (sy : Int) (any : Bool) (K K2 : Nat) (s : ByteArray) (bg E R : Nat) (x : OpR) (h : SwIn f w1 w4 b d k z i0 B sy any K K2 s bg E R x) (J : Act → World → Prop) (Q : Exit → Act → World → Prop) (hJ : ∀ a w, SwI f w1 d (2 * k + 2) z K K2 x a w → J a w) (k1 : x.k = 1) :
    Code.wp Tryz.prog swC (Exit.then J Q) (Fr 380 f) w4 := by
  obtain ⟨f0, f5, f6, f8, f10, f11, f68, hpx, hk, hs, hss, hbg, hE, hR, hz1, hz2, hE9, hxs⟩ := id h
  have HEND := Lib.hid (fun W => h.end_ W)
  have hRz : R < z := by rw [hR]; exact Nat.mod_lt _ (by omega)
  have hbg9 : bg ≤ 99000000 := by omega
  have hss9 : s.size ≤ 99000000 := by omega
  have hbg9 : bg ≤ 99000000 := by omega
  have hss9 : s.size ≤ 99000000 := by omega
  have hz7 : ¬ (z : Int) = 0 := by omega
  have hz8 : ((z : Int) == 0) = false := by simpa using hz7
  have HP4 := Lib.hid hpx
  have HX4 : Hid (XCells w4 K K2 s bg sy any x) := Lib.hid (xcells_of hpx.1 hs hbg)
  have HS := Lib.hid hs
  have HSS := Lib.hid hss
  have HBG := Lib.hid hbg
  have HE := Lib.hid hE
  have HR := Lib.hid hR
  clear h hpx hs hss hbg hE hR
  obtain ⟨xk, xa, xn, xs⟩ := x
  simp only at hxs f68
  obtain ⟨x0, x1, x2, x3, o0', o1', o2', o3', zz⟩ := HX4.out
  simp only at o0' o1' o2' o3'
  clear zz
  have HJ := Lib.hid hJ
  clear hJ
  rw [fr_lit380 f, f0, f5, f6, f8, f10, f11, f68]
  simp only at k1
  conv => arg 2; whnf
  subst k1
  have hc := playx_read HP4.out.1.play xa xn
  unfold ReadR at hc
  rw [← HBG.out, ← HSS.out, ← HE.out] at hc
  have HC := Lib.hid hc
  clear hc
  go_wp2_with fail
  refine HC.out.mono ?_
  rintro e w5 ⟨rs, rf, rfl, hb5, hin1, hin2⟩
  have HP5 := Lib.hid (HP4.out.new (Chg.of_below hb5))
  have HX5 := Lib.hid (HX4.out.new hb5)
  have HI1 := Lib.hid hin1
  have HI2 := Lib.hid hin2
  clear hb5 hin1 hin2 x0 x1 x2 x3 o0' o1' o2' o3'
  obtain ⟨c1, hc1⟩ : ∃ c, c = decide ((bg : Int) ≤ xa) := ⟨_, rfl⟩
  obtain ⟨b2, hb2'⟩ : ∃ c, c = decide (xa ≤ (E : Int)) := ⟨_, rfl⟩
  obtain ⟨c2, hc2⟩ : ∃ c, c = (c1 && b2) := ⟨_, rfl⟩
  obtain ⟨b3, hb3'⟩ : ∃ c, c = decide (0 ≤ xn) := ⟨_, rfl⟩
  obtain ⟨c3, hc3⟩ : ∃ c, c = (c2 && b3) := ⟨_, rfl⟩
  obtain ⟨b4, hb4'⟩ : ∃ c, c = decide (xn ≤ (E : Int) - xa) := ⟨_, rfl⟩
  obtain ⟨c4, hc4⟩ : ∃ c, c = (c3 && b4) := ⟨_, rfl⟩
  obtain ⟨b5, hb5'⟩ : ∃ c, c = (xn == 0) := ⟨_, rfl⟩
  obtain ⟨b6, hb6'⟩ : ∃ c, c = decide (xn ≤ (z : Int) - xa % (z : Int)) := ⟨_, rfl⟩
  obtain ⟨c5, hc5⟩ : ∃ c, c = (c4 && (b5 || b6)) := ⟨_, rfl⟩
  have HIN : Hid (c5 = true ↔ InR z bg E xa xn) := Lib.hid (by
    rw [hc5, hc4, hc3, hc2, hc1, hb2', hb3', hb4', hb5', hb6']
    unfold InR
    simp only [Bool.and_eq_true, Bool.or_eq_true, decide_eq_true_eq, beq_iff_eq]
    exact ⟨fun ⟨⟨⟨⟨p1, p2⟩, p3⟩, p4⟩, p5⟩ => ⟨p1, p2, p3, p4, p5⟩, fun ⟨p1, p2, p3, p4, p5⟩ => ⟨⟨⟨⟨p1, p2⟩, p3⟩, p4⟩, p5⟩⟩)
  have HB3 : Hid (c3 = true → (bg : Int) ≤ xa ∧ xa ≤ (E : Int)) := Lib.hid (by
    rw [hc3, hc2, hc1, hb2']
    simp only [Bool.and_eq_true, decide_eq_true_eq]
    exact fun p => p.1)
  have HB4 : Hid (c4 = true → (bg : Int) ≤ xa ∧ xa ≤ (E : Int)) := Lib.hid (by
    rw [hc4, hc3, hc2, hc1, hb2']
    simp only [Bool.and_eq_true, decide_eq_true_eq]
    exact fun p => p.1.1)
  have HC1 := Lib.hid hc1
  have HB2 := Lib.hid hb2'
  have HC2 := Lib.hid hc2
  have HB3V := Lib.hid hb3'
  have HC3 := Lib.hid hc3
  have HB4V := Lib.hid hb4'
  have HC4 := Lib.hid hc4
  have HB5 := Lib.hid hb5'
  have HB6 := Lib.hid hb6'
  have HC5 := Lib.hid hc5
  clear hc1 hb2' hc2 hb3' hc3 hb4' hc4 hb5' hb6' hc5
  go_upto_region 30 with fail
  refine region_inv' (n := 380) rfl rfl (by kernel_rfl) (by kernel_rfl) (fun i v _ => match i with | 0 => v = .pointer (some ⟨K2, 1, none⟩) | 1 => v = .int .i64 xa | 2 => v = .pointer (some ⟨K, 1, none⟩) | 3 => v = .int .i64 (bg : Int) | 4 => v = .bool c1 | 5 => v = .bool c1 | 6 => v = gv (c1) (.pointer (some ⟨K2, 1, none⟩)) | 7 => v = gv (c1) (.int .i64 xa) | 8 => v = gv (c1) (.agg #[.string s, .int .i64 (bg : Int), .int .i64 sy, .bool any]) | 9 => v = gv (c1) (.int .i64 (E : Int)) | 10 => v = gv (c1) (.bool b2) | 11 => v = .bool c2 | 12 => v = .bool c2 | 13 => v = gv (c2) (.pointer (some ⟨K2, 2, none⟩)) | 14 => v = gv (c2) (.int .i64 xn) | 15 => v = gv (c2) (.bool b3) | 16 => v = .bool c3 | 17 => v = .bool c3 | 18 => v = gv (c3) (.pointer (some ⟨K2, 2, none⟩)) | 19 => v = gv (c3) (.int .i64 xn) | 20 => v = gv (c3) (.agg #[.string s, .int .i64 (bg : Int), .int .i64 sy, .bool any]) | 21 => v = gv (c3) (.int .i64 (E : Int)) | 22 => v = gv (c3) (.pointer (some ⟨K2, 1, none⟩)) | 23 => v = gv (c3) (.int .i64 xa) | 24 => v = gv (c3) (.int .i64 ((E : Int) - xa)) | 25 => v = gv (c3) (.bool b4) | 26 => v = .bool c4 | 27 => v = .bool c4 | 28 => v = gv (c4) (.pointer (some ⟨K2, 2, none⟩)) | 29 => v = gv (c4) (.int .i64 xn) | 30 => v = gv (c4) (.bool b5) | 31 => v = gv (c4) (.bool b5) | 32 => v = gv (c4 && !b5) (.pointer (some ⟨K2, 2, none⟩)) | 33 => v = gv (c4 && !b5) (.int .i64 xn) | 34 => v = gv (c4 && !b5) (.int .i64 (z : Int)) | 35 => v = gv (c4 && !b5) (.pointer (some ⟨K2, 1, none⟩)) | 36 => v = gv (c4 && !b5) (.int .i64 xa) | 37 => v = gv (c4 && !b5) (.int .i64 (z : Int)) | 38 => v = gv (c4 && !b5) (.int .i64 (xa % (z : Int))) | 39 => v = gv (c4 && !b5) (.int .i64 ((z : Int) - xa % (z : Int))) | 40 => v = gv (c4 && !b5) (.bool b6) | 41 => v = gv (c4) (.bool (b5 || b6)) | 42 => v = .bool c5 | 43 => v = .bool c5 | _ => True)
    (fun w' => Below w5.heap.size w5 w') (fun w' w2 => Below w5.heap.size w' w2) (fun w' => Below.refl _ _) (fun _ _ _ _ _ h => h) (Below.refl _ _).drew ?_ ?_
  · simp only [AllAt]
    refine ⟨?_, ?_, ?_, ?_, ?_, ?_, ?_, ?_, ?_, ?_, ?_, ?_, ?_, ?_, ?_, ?_, ?_, ?_, ?_, ?_, ?_, ?_, ?_, ?_, ?_, ?_, ?_, ?_, ?_, ?_, ?_, ?_, ?_, ?_, ?_, ?_, ?_, ?_, ?_, ?_, ?_, ?_, ?_, ?_, trivial⟩
    · refine StepAt.plain rfl ?_
      intro f w' hG hfr hp Kx hK
      have g10 : f 10 = .pointer (some ⟨K2, 0, none⟩) := hfr 10 (by kernel_rfl)
      clear hfr hp
      go_simp
      exact hK _ _ rfl hG (Below.refl _ _)
    · refine StepAt.plain rfl ?_
      intro f w' hG hfr hp Kx hK
      have g120 : f 120 = .pointer (some ⟨K2, 1, none⟩) := hp 0 _ 120 rfl rfl (by kernel_rfl)
      clear hfr hp
      have q := (HX5.out.new hG).o1
      try simp only at q
      go_simp
      exact hK _ _ rfl hG (Below.refl _ _)
    · refine StepAt.plain rfl ?_
      intro f w' hG hfr hp Kx hK
      have g8 : f 8 = .pointer (some ⟨K, 0, none⟩) := hfr 8 (by kernel_rfl)
      clear hfr hp
      go_simp
      exact hK _ _ rfl hG (Below.refl _ _)
    · refine StepAt.plain rfl ?_
      intro f w' hG hfr hp Kx hK
      have g122 : f 122 = .pointer (some ⟨K, 1, none⟩) := hp 2 _ 122 rfl rfl (by kernel_rfl)
      clear hfr hp
      have q := (HX5.out.new hG).x1
      try simp only at q
      go_simp
      exact hK _ _ rfl hG (Below.refl _ _)
    · refine StepAt.plain rfl ?_
      intro f w' hG hfr hp Kx hK
      have g121 : f 121 = .int .i64 xa := hp 1 _ 121 rfl rfl (by kernel_rfl)
      have g123 : f 123 = .int .i64 (bg : Int) := hp 3 _ 123 rfl rfl (by kernel_rfl)
      clear hfr hp
      go_simp
      exact hK _ _ (congrArg Value.bool (by first | exact HC1.out.symm | (rw [HC1.out]; simp; done) | (rw [HC1.out]; exact (decide_eq_true (by omega)).symm) | (rw [HC1.out]; exact (decide_eq_false (by omega)).symm))) hG (Below.refl _ _)
    · refine StepAt.plain rfl ?_
      intro f w' hG hfr hp Kx hK
      have g124 : f 124 = .bool c1 := hp 4 _ 124 rfl rfl (by kernel_rfl)
      clear hfr hp
      go_simp
      exact hK _ _ rfl hG (Below.refl _ _)
    · refine StepAt.guarded 5 125 true _ rfl rfl rfl (by decide) (by kernel_rfl) (c1) (by intro w v h; (have h : v = .bool c1 := h); rw [h]; (cases c1 <;> simp [gv, undef])) (by intro h w; show undef = gv (c1) _; rw [h]; rfl) ?_
      intro hc f w' hG hfr hp Kx hK
      have g10 : f 10 = .pointer (some ⟨K2, 0, none⟩) := hfr 10 (by kernel_rfl)
      clear hfr hp
      subst hc
      go_simp
      exact hK _ _ rfl hG (Below.refl _ _)
    · refine StepAt.guarded 5 125 true _ rfl rfl rfl (by decide) (by kernel_rfl) (c1) (by intro w v h; (have h : v = .bool c1 := h); rw [h]; (cases c1 <;> simp [gv, undef])) (by intro h w; show undef = gv (c1) _; rw [h]; rfl) ?_
      intro hc f w' hG hfr hp Kx hK
      have g126 : f 126 = gv (c1) (.pointer (some ⟨K2, 1, none⟩)) := hp 6 _ 126 rfl rfl (by kernel_rfl)
      clear hfr hp
      subst hc
      simp only [gv_true, gv_false, Bool.not_false, Bool.not_true, Bool.and_true, Bool.true_and] at g126
      have q := (HX5.out.new hG).o1
      try simp only at q
      go_simp
      exact hK _ _ rfl hG (Below.refl _ _)
    · refine StepAt.guarded 5 125 true _ rfl rfl rfl (by decide) (by kernel_rfl) (c1) (by intro w v h; (have h : v = .bool c1 := h); rw [h]; (cases c1 <;> simp [gv, undef])) (by intro h w; show undef = gv (c1) _; rw [h]; rfl) ?_
      intro hc f w' hG hfr hp Kx hK
      have g8 : f 8 = .pointer (some ⟨K, 0, none⟩) := hfr 8 (by kernel_rfl)
      clear hfr hp
      subst hc
      obtain ⟨q0, q1, q2, q3, q4, q5, q6, q7, q8⟩ := HX5.out.new hG
      clear q4 q5 q6 q7 q8
      go_simp
      exact hK _ _ rfl hG (Below.refl _ _)
    · refine StepAt.guarded 5 125 true _ rfl rfl rfl (by decide) (by kernel_rfl) (c1) (by intro w v h; (have h : v = .bool c1 := h); rw [h]; (cases c1 <;> simp [gv, undef])) (by intro h w; show undef = gv (c1) _; rw [h]; rfl) ?_
      intro hc f w' hG hfr hp Kx hK
      have g128 : f 128 = gv (c1) (.agg #[.string s, .int .i64 (bg : Int), .int .i64 sy, .bool any]) := hp 8 _ 128 rfl rfl (by kernel_rfl)
      clear hfr hp
      subst hc
      simp only [gv_true, gv_false, Bool.not_false, Bool.not_true, Bool.and_true, Bool.true_and] at g128
      go_simp
      refine (HEND.out w').mono ?_
      rintro e w2 ⟨rfl, hb⟩
      exact hK _ _ rfl (Below.trans hG (Below.mono hb hG.size)) (Below.mono hb hG.size)
    · refine StepAt.guarded 5 125 true _ rfl rfl rfl (by decide) (by kernel_rfl) (c1) (by intro w v h; (have h : v = .bool c1 := h); rw [h]; (cases c1 <;> simp [gv, undef])) (by intro h w; show undef = gv (c1) _; rw [h]; rfl) ?_
      intro hc f w' hG hfr hp Kx hK
      have g127 : f 127 = gv (c1) (.int .i64 xa) := hp 7 _ 127 rfl rfl (by kernel_rfl)
      have g129 : f 129 = gv (c1) (.int .i64 (E : Int)) := hp 9 _ 129 rfl rfl (by kernel_rfl)
      clear hfr hp
      subst hc
      simp only [gv_true, gv_false, Bool.not_false, Bool.not_true, Bool.and_true, Bool.true_and] at g127 g129
      go_simp
      exact hK _ _ (congrArg Value.bool (by first | exact HB2.out.symm | (rw [HB2.out]; simp; done) | (rw [HB2.out]; exact (decide_eq_true (by omega)).symm) | (rw [HB2.out]; exact (decide_eq_false (by omega)).symm))) hG (Below.refl _ _)
    · refine StepAt.plain rfl ?_
      intro f w' hG hfr hp Kx hK
      have g125 : f 125 = .bool c1 := hp 5 _ 125 rfl rfl (by kernel_rfl)
      have g130 : f 130 = gv (c1) (.bool b2) := hp 10 _ 130 rfl rfl (by kernel_rfl)
      clear hfr hp
      cases c1 <;> (simp only [gv_true, gv_false] at g130; go_simp; exact hK _ _ (congrArg Value.bool HC2.out.symm) hG (Below.refl _ _))
    · refine StepAt.plain rfl ?_
      intro f w' hG hfr hp Kx hK
      have g131 : f 131 = .bool c2 := hp 11 _ 131 rfl rfl (by kernel_rfl)
      clear hfr hp
      go_simp
      exact hK _ _ rfl hG (Below.refl _ _)
    · refine StepAt.guarded 12 132 true _ rfl rfl rfl (by decide) (by kernel_rfl) (c2) (by intro w v h; (have h : v = .bool c2 := h); rw [h]; (cases c2 <;> simp [gv, undef])) (by intro h w; show undef = gv (c2) _; rw [h]; rfl) ?_
      intro hc f w' hG hfr hp Kx hK
      have g10 : f 10 = .pointer (some ⟨K2, 0, none⟩) := hfr 10 (by kernel_rfl)
      clear hfr hp
      subst hc
      go_simp
      exact hK _ _ rfl hG (Below.refl _ _)
    · refine StepAt.guarded 12 132 true _ rfl rfl rfl (by decide) (by kernel_rfl) (c2) (by intro w v h; (have h : v = .bool c2 := h); rw [h]; (cases c2 <;> simp [gv, undef])) (by intro h w; show undef = gv (c2) _; rw [h]; rfl) ?_
      intro hc f w' hG hfr hp Kx hK
      have g133 : f 133 = gv (c2) (.pointer (some ⟨K2, 2, none⟩)) := hp 13 _ 133 rfl rfl (by kernel_rfl)
      clear hfr hp
      subst hc
      simp only [gv_true, gv_false, Bool.not_false, Bool.not_true, Bool.and_true, Bool.true_and] at g133
      have q := (HX5.out.new hG).o2
      try simp only at q
      go_simp
      exact hK _ _ rfl hG (Below.refl _ _)
    · refine StepAt.guarded 12 132 true _ rfl rfl rfl (by decide) (by kernel_rfl) (c2) (by intro w v h; (have h : v = .bool c2 := h); rw [h]; (cases c2 <;> simp [gv, undef])) (by intro h w; show undef = gv (c2) _; rw [h]; rfl) ?_
      intro hc f w' hG hfr hp Kx hK
      have g134 : f 134 = gv (c2) (.int .i64 xn) := hp 14 _ 134 rfl rfl (by kernel_rfl)
      clear hfr hp
      subst hc
      simp only [gv_true, gv_false, Bool.not_false, Bool.not_true, Bool.and_true, Bool.true_and] at g134
      go_simp
      exact hK _ _ (congrArg Value.bool (by first | exact HB3V.out.symm | (rw [HB3V.out]; exact (decide_eq_true (by omega)).symm) | (rw [HB3V.out]; exact (decide_eq_false (by omega)).symm))) hG (Below.refl _ _)
    · refine StepAt.plain rfl ?_
      intro f w' hG hfr hp Kx hK
      have g132 : f 132 = .bool c2 := hp 12 _ 132 rfl rfl (by kernel_rfl)
      have g135 : f 135 = gv (c2) (.bool b3) := hp 15 _ 135 rfl rfl (by kernel_rfl)
      clear hfr hp
      cases c2 <;> (simp only [gv_true, gv_false] at g135; go_simp; exact hK _ _ (congrArg Value.bool HC3.out.symm) hG (Below.refl _ _))
    · refine StepAt.plain rfl ?_
      intro f w' hG hfr hp Kx hK
      have g136 : f 136 = .bool c3 := hp 16 _ 136 rfl rfl (by kernel_rfl)
      clear hfr hp
      go_simp
      exact hK _ _ rfl hG (Below.refl _ _)
    · refine StepAt.guarded 17 137 true _ rfl rfl rfl (by decide) (by kernel_rfl) (c3) (by intro w v h; (have h : v = .bool c3 := h); rw [h]; (cases c3 <;> simp [gv, undef])) (by intro h w; show undef = gv (c3) _; rw [h]; rfl) ?_
      intro hc f w' hG hfr hp Kx hK
      have g10 : f 10 = .pointer (some ⟨K2, 0, none⟩) := hfr 10 (by kernel_rfl)
      clear hfr hp
      have hbd := HB3.out hc
      subst hc
      go_simp
      exact hK _ _ rfl hG (Below.refl _ _)
    · refine StepAt.guarded 17 137 true _ rfl rfl rfl (by decide) (by kernel_rfl) (c3) (by intro w v h; (have h : v = .bool c3 := h); rw [h]; (cases c3 <;> simp [gv, undef])) (by intro h w; show undef = gv (c3) _; rw [h]; rfl) ?_
      intro hc f w' hG hfr hp Kx hK
      have g138 : f 138 = gv (c3) (.pointer (some ⟨K2, 2, none⟩)) := hp 18 _ 138 rfl rfl (by kernel_rfl)
      clear hfr hp
      have hbd := HB3.out hc
      subst hc
      simp only [gv_true, gv_false, Bool.not_false, Bool.not_true, Bool.and_true, Bool.true_and] at g138
      have q := (HX5.out.new hG).o2
      try simp only at q
      go_simp
      exact hK _ _ rfl hG (Below.refl _ _)
    · refine StepAt.guarded 17 137 true _ rfl rfl rfl (by decide) (by kernel_rfl) (c3) (by intro w v h; (have h : v = .bool c3 := h); rw [h]; (cases c3 <;> simp [gv, undef])) (by intro h w; show undef = gv (c3) _; rw [h]; rfl) ?_
      intro hc f w' hG hfr hp Kx hK
      have g8 : f 8 = .pointer (some ⟨K, 0, none⟩) := hfr 8 (by kernel_rfl)
      clear hfr hp
      have hbd := HB3.out hc
      subst hc
      obtain ⟨q0, q1, q2, q3, q4, q5, q6, q7, q8⟩ := HX5.out.new hG
      clear q4 q5 q6 q7 q8
      go_simp
      exact hK _ _ rfl hG (Below.refl _ _)
    · refine StepAt.guarded 17 137 true _ rfl rfl rfl (by decide) (by kernel_rfl) (c3) (by intro w v h; (have h : v = .bool c3 := h); rw [h]; (cases c3 <;> simp [gv, undef])) (by intro h w; show undef = gv (c3) _; rw [h]; rfl) ?_
      intro hc f w' hG hfr hp Kx hK
      have g140 : f 140 = gv (c3) (.agg #[.string s, .int .i64 (bg : Int), .int .i64 sy, .bool any]) := hp 20 _ 140 rfl rfl (by kernel_rfl)
      clear hfr hp
      have hbd := HB3.out hc
      subst hc
      simp only [gv_true, gv_false, Bool.not_false, Bool.not_true, Bool.and_true, Bool.true_and] at g140
      go_simp
      refine (HEND.out w').mono ?_
      rintro e w2 ⟨rfl, hb⟩
      exact hK _ _ rfl (Below.trans hG (Below.mono hb hG.size)) (Below.mono hb hG.size)
    · refine StepAt.guarded 17 137 true _ rfl rfl rfl (by decide) (by kernel_rfl) (c3) (by intro w v h; (have h : v = .bool c3 := h); rw [h]; (cases c3 <;> simp [gv, undef])) (by intro h w; show undef = gv (c3) _; rw [h]; rfl) ?_
      intro hc f w' hG hfr hp Kx hK
      have g10 : f 10 = .pointer (some ⟨K2, 0, none⟩) := hfr 10 (by kernel_rfl)
      clear hfr hp
      have hbd := HB3.out hc
      subst hc
      go_simp
      exact hK _ _ rfl hG (Below.refl _ _)
    · refine StepAt.guarded 17 137 true _ rfl rfl rfl (by decide) (by kernel_rfl) (c3) (by intro w v h; (have h : v = .bool c3 := h); rw [h]; (cases c3 <;> simp [gv, undef])) (by intro h w; show undef = gv (c3) _; rw [h]; rfl) ?_
      intro hc f w' hG hfr hp Kx hK
      have g142 : f 142 = gv (c3) (.pointer (some ⟨K2, 1, none⟩)) := hp 22 _ 142 rfl rfl (by kernel_rfl)
      clear hfr hp
      have hbd := HB3.out hc
      subst hc
      simp only [gv_true, gv_false, Bool.not_false, Bool.not_true, Bool.and_true, Bool.true_and] at g142
      have q := (HX5.out.new hG).o1
      try simp only at q
      go_simp
      exact hK _ _ rfl hG (Below.refl _ _)
    · refine StepAt.guarded 17 137 true _ rfl rfl rfl (by decide) (by kernel_rfl) (c3) (by intro w v h; (have h : v = .bool c3 := h); rw [h]; (cases c3 <;> simp [gv, undef])) (by intro h w; show undef = gv (c3) _; rw [h]; rfl) ?_
      intro hc f w' hG hfr hp Kx hK
      have g141 : f 141 = gv (c3) (.int .i64 (E : Int)) := hp 21 _ 141 rfl rfl (by kernel_rfl)
      have g143 : f 143 = gv (c3) (.int .i64 xa) := hp 23 _ 143 rfl rfl (by kernel_rfl)
      clear hfr hp
      have hbd := HB3.out hc
      subst hc
      simp only [gv_true, gv_false, Bool.not_false, Bool.not_true, Bool.and_true, Bool.true_and] at g141 g143
      have hw : IntKind.i64.wrap ((E : Int) - xa) = (E : Int) - xa := IntWalk.i64_in _ (by omega)
      go_simp
      exact hK _ _ rfl hG (Below.refl _ _)
    · refine StepAt.guarded 17 137 true _ rfl rfl rfl (by decide) (by kernel_rfl) (c3) (by intro w v h; (have h : v = .bool c3 := h); rw [h]; (cases c3 <;> simp [gv, undef])) (by intro h w; show undef = gv (c3) _; rw [h]; rfl) ?_
      intro hc f w' hG hfr hp Kx hK
      have g139 : f 139 = gv (c3) (.int .i64 xn) := hp 19 _ 139 rfl rfl (by kernel_rfl)
      have g144 : f 144 = gv (c3) (.int .i64 ((E : Int) - xa)) := hp 24 _ 144 rfl rfl (by kernel_rfl)
      clear hfr hp
      have hbd := HB3.out hc
      subst hc
      simp only [gv_true, gv_false, Bool.not_false, Bool.not_true, Bool.and_true, Bool.true_and] at g139 g144
      go_simp
      exact hK _ _ (congrArg Value.bool (by first | exact HB4V.out.symm | (rw [HB4V.out]; exact (decide_eq_true (by omega)).symm) | (rw [HB4V.out]; exact (decide_eq_false (by omega)).symm))) hG (Below.refl _ _)
    · refine StepAt.plain rfl ?_
      intro f w' hG hfr hp Kx hK
      have g137 : f 137 = .bool c3 := hp 17 _ 137 rfl rfl (by kernel_rfl)
      have g145 : f 145 = gv (c3) (.bool b4) := hp 25 _ 145 rfl rfl (by kernel_rfl)
      clear hfr hp
      cases c3 <;> (simp only [gv_true, gv_false] at g145; go_simp; exact hK _ _ (congrArg Value.bool HC4.out.symm) hG (Below.refl _ _))
    · refine StepAt.plain rfl ?_
      intro f w' hG hfr hp Kx hK
      have g146 : f 146 = .bool c4 := hp 26 _ 146 rfl rfl (by kernel_rfl)
      clear hfr hp
      go_simp
      exact hK _ _ rfl hG (Below.refl _ _)
    · refine StepAt.guarded 27 147 true _ rfl rfl rfl (by decide) (by kernel_rfl) (c4) (by intro w v h; (have h : v = .bool c4 := h); rw [h]; (cases c4 <;> simp [gv, undef])) (by intro h w; show undef = gv (c4) _; rw [h]; rfl) ?_
      intro hc f w' hG hfr hp Kx hK
      have g10 : f 10 = .pointer (some ⟨K2, 0, none⟩) := hfr 10 (by kernel_rfl)
      clear hfr hp
      have hbd := HB4.out hc
      subst hc
      go_simp
      exact hK _ _ rfl hG (Below.refl _ _)
    · refine StepAt.guarded 27 147 true _ rfl rfl rfl (by decide) (by kernel_rfl) (c4) (by intro w v h; (have h : v = .bool c4 := h); rw [h]; (cases c4 <;> simp [gv, undef])) (by intro h w; show undef = gv (c4) _; rw [h]; rfl) ?_
      intro hc f w' hG hfr hp Kx hK
      have g148 : f 148 = gv (c4) (.pointer (some ⟨K2, 2, none⟩)) := hp 28 _ 148 rfl rfl (by kernel_rfl)
      clear hfr hp
      have hbd := HB4.out hc
      subst hc
      simp only [gv_true, gv_false, Bool.not_false, Bool.not_true, Bool.and_true, Bool.true_and] at g148
      have q := (HX5.out.new hG).o2
      try simp only at q
      go_simp
      exact hK _ _ rfl hG (Below.refl _ _)
    · refine StepAt.guarded 27 147 true _ rfl rfl rfl (by decide) (by kernel_rfl) (c4) (by intro w v h; (have h : v = .bool c4 := h); rw [h]; (cases c4 <;> simp [gv, undef])) (by intro h w; show undef = gv (c4) _; rw [h]; rfl) ?_
      intro hc f w' hG hfr hp Kx hK
      have g149 : f 149 = gv (c4) (.int .i64 xn) := hp 29 _ 149 rfl rfl (by kernel_rfl)
      clear hfr hp
      have hbd := HB4.out hc
      subst hc
      simp only [gv_true, gv_false, Bool.not_false, Bool.not_true, Bool.and_true, Bool.true_and] at g149
      go_simp
      exact hK _ _ (congrArg Value.bool (by first | exact HB5.out.symm | (rw [HB5.out]; exact (decide_eq_true (by omega)).symm) | (rw [HB5.out]; exact (decide_eq_false (by omega)).symm))) hG (Below.refl _ _)
    · refine StepAt.guarded 27 147 true _ rfl rfl rfl (by decide) (by kernel_rfl) (c4) (by intro w v h; (have h : v = .bool c4 := h); rw [h]; (cases c4 <;> simp [gv, undef])) (by intro h w; show undef = gv (c4) _; rw [h]; rfl) ?_
      intro hc f w' hG hfr hp Kx hK
      have g150 : f 150 = gv (c4) (.bool b5) := hp 30 _ 150 rfl rfl (by kernel_rfl)
      clear hfr hp
      have hbd := HB4.out hc
      subst hc
      simp only [gv_true, gv_false, Bool.not_false, Bool.not_true, Bool.and_true, Bool.true_and] at g150
      go_simp
      exact hK _ _ rfl hG (Below.refl _ _)
    · refine StepAt.guarded 31 151 false _ rfl rfl rfl (by decide) (by kernel_rfl) (c4 && !b5) (by intro w v h; (have h : v = gv (c4) (.bool b5) := h); rw [h]; (cases c4 <;> cases b5 <;> simp [gv, undef])) (by intro h w; show undef = gv (c4 && !b5) _; rw [h]; rfl) ?_
      intro hc f w' hG hfr hp Kx hK
      have g10 : f 10 = .pointer (some ⟨K2, 0, none⟩) := hfr 10 (by kernel_rfl)
      clear hfr hp
      have hq : c4 = true ∧ b5 = false := by revert hc; cases c4 <;> cases b5 <;> decide
      have hbd := HB4.out hq.1
      obtain ⟨rfl, rfl⟩ := hq
      go_simp
      exact hK _ _ rfl hG (Below.refl _ _)
    · refine StepAt.guarded 31 151 false _ rfl rfl rfl (by decide) (by kernel_rfl) (c4 && !b5) (by intro w v h; (have h : v = gv (c4) (.bool b5) := h); rw [h]; (cases c4 <;> cases b5 <;> simp [gv, undef])) (by intro h w; show undef = gv (c4 && !b5) _; rw [h]; rfl) ?_
      intro hc f w' hG hfr hp Kx hK
      have g152 : f 152 = gv (c4 && !b5) (.pointer (some ⟨K2, 2, none⟩)) := hp 32 _ 152 rfl rfl (by kernel_rfl)
      clear hfr hp
      have hq : c4 = true ∧ b5 = false := by revert hc; cases c4 <;> cases b5 <;> decide
      have hbd := HB4.out hq.1
      obtain ⟨rfl, rfl⟩ := hq
      simp only [gv_true, gv_false, Bool.not_false, Bool.not_true, Bool.and_true, Bool.true_and] at g152
      have q := (HX5.out.new hG).o2
      try simp only at q
      go_simp
      exact hK _ _ rfl hG (Below.refl _ _)
    · refine StepAt.guarded 31 151 false _ rfl rfl rfl (by decide) (by kernel_rfl) (c4 && !b5) (by intro w v h; (have h : v = gv (c4) (.bool b5) := h); rw [h]; (cases c4 <;> cases b5 <;> simp [gv, undef])) (by intro h w; show undef = gv (c4 && !b5) _; rw [h]; rfl) ?_
      intro hc f w' hG hfr hp Kx hK
      have g0 : f 0 = .int .i64 (z : Int) := hfr 0 (by kernel_rfl)
      clear hfr hp
      have hq : c4 = true ∧ b5 = false := by revert hc; cases c4 <;> cases b5 <;> decide
      have hbd := HB4.out hq.1
      obtain ⟨rfl, rfl⟩ := hq
      go_simp
      exact hK _ _ rfl hG (Below.refl _ _)
    · refine StepAt.guarded 31 151 false _ rfl rfl rfl (by decide) (by kernel_rfl) (c4 && !b5) (by intro w v h; (have h : v = gv (c4) (.bool b5) := h); rw [h]; (cases c4 <;> cases b5 <;> simp [gv, undef])) (by intro h w; show undef = gv (c4 && !b5) _; rw [h]; rfl) ?_
      intro hc f w' hG hfr hp Kx hK
      have g10 : f 10 = .pointer (some ⟨K2, 0, none⟩) := hfr 10 (by kernel_rfl)
      clear hfr hp
      have hq : c4 = true ∧ b5 = false := by revert hc; cases c4 <;> cases b5 <;> decide
      have hbd := HB4.out hq.1
      obtain ⟨rfl, rfl⟩ := hq
      go_simp
      exact hK _ _ rfl hG (Below.refl _ _)
    · refine StepAt.guarded 31 151 false _ rfl rfl rfl (by decide) (by kernel_rfl) (c4 && !b5) (by intro w v h; (have h : v = gv (c4) (.bool b5) := h); rw [h]; (cases c4 <;> cases b5 <;> simp [gv, undef])) (by intro h w; show undef = gv (c4 && !b5) _; rw [h]; rfl) ?_
      intro hc f w' hG hfr hp Kx hK
      have g155 : f 155 = gv (c4 && !b5) (.pointer (some ⟨K2, 1, none⟩)) := hp 35 _ 155 rfl rfl (by kernel_rfl)
      clear hfr hp
      have hq : c4 = true ∧ b5 = false := by revert hc; cases c4 <;> cases b5 <;> decide
      have hbd := HB4.out hq.1
      obtain ⟨rfl, rfl⟩ := hq
      simp only [gv_true, gv_false, Bool.not_false, Bool.not_true, Bool.and_true, Bool.true_and] at g155
      have q := (HX5.out.new hG).o1
      try simp only at q
      go_simp
      exact hK _ _ rfl hG (Below.refl _ _)
    · refine StepAt.guarded 31 151 false _ rfl rfl rfl (by decide) (by kernel_rfl) (c4 && !b5) (by intro w v h; (have h : v = gv (c4) (.bool b5) := h); rw [h]; (cases c4 <;> cases b5 <;> simp [gv, undef])) (by intro h w; show undef = gv (c4 && !b5) _; rw [h]; rfl) ?_
      intro hc f w' hG hfr hp Kx hK
      have g0 : f 0 = .int .i64 (z : Int) := hfr 0 (by kernel_rfl)
      clear hfr hp
      have hq : c4 = true ∧ b5 = false := by revert hc; cases c4 <;> cases b5 <;> decide
      have hbd := HB4.out hq.1
      obtain ⟨rfl, rfl⟩ := hq
      go_simp
      exact hK _ _ rfl hG (Below.refl _ _)
    · refine StepAt.guarded 31 151 false _ rfl rfl rfl (by decide) (by kernel_rfl) (c4 && !b5) (by intro w v h; (have h : v = gv (c4) (.bool b5) := h); rw [h]; (cases c4 <;> cases b5 <;> simp [gv, undef])) (by intro h w; show undef = gv (c4 && !b5) _; rw [h]; rfl) ?_
      intro hc f w' hG hfr hp Kx hK
      have g156 : f 156 = gv (c4 && !b5) (.int .i64 xa) := hp 36 _ 156 rfl rfl (by kernel_rfl)
      have g157 : f 157 = gv (c4 && !b5) (.int .i64 (z : Int)) := hp 37 _ 157 rfl rfl (by kernel_rfl)
      clear hfr hp
      have hq : c4 = true ∧ b5 = false := by revert hc; cases c4 <;> cases b5 <;> decide
      have hbd := HB4.out hq.1
      obtain ⟨rfl, rfl⟩ := hq
      simp only [gv_true, gv_false, Bool.not_false, Bool.not_true, Bool.and_true, Bool.true_and] at g156 g157
      obtain ⟨A, hA⟩ : ∃ A : Nat, xa = (A : Int) := ⟨xa.toNat, by omega⟩
      rw [hA] at g156
      have hz9 : ¬ z = 0 := by omega
      have htm : ((A : Int)).tmod (z : Int) = (A : Int) % (z : Int) := Int.tmod_eq_emod_of_nonneg (by omega)
      go_simp
      exact hK _ _ (by rw [hA]; rfl) hG (Below.refl _ _)
    · refine StepAt.guarded 31 151 false _ rfl rfl rfl (by decide) (by kernel_rfl) (c4 && !b5) (by intro w v h; (have h : v = gv (c4) (.bool b5) := h); rw [h]; (cases c4 <;> cases b5 <;> simp [gv, undef])) (by intro h w; show undef = gv (c4 && !b5) _; rw [h]; rfl) ?_
      intro hc f w' hG hfr hp Kx hK
      have g154 : f 154 = gv (c4 && !b5) (.int .i64 (z : Int)) := hp 34 _ 154 rfl rfl (by kernel_rfl)
      have g158 : f 158 = gv (c4 && !b5) (.int .i64 (xa % (z : Int))) := hp 38 _ 158 rfl rfl (by kernel_rfl)
      clear hfr hp
      have hq : c4 = true ∧ b5 = false := by revert hc; cases c4 <;> cases b5 <;> decide
      have hbd := HB4.out hq.1
      obtain ⟨rfl, rfl⟩ := hq
      simp only [gv_true, gv_false, Bool.not_false, Bool.not_true, Bool.and_true, Bool.true_and] at g154 g158
      have hm0 := Int.emod_nonneg xa hz7
      have hm1 := Int.emod_lt_of_pos xa (show (0 : Int) < (z : Int) by omega)
      have hw : IntKind.i64.wrap ((z : Int) - xa % (z : Int)) = (z : Int) - xa % (z : Int) := IntWalk.i64_in _ (by omega)
      go_simp
      exact hK _ _ rfl hG (Below.refl _ _)
    · refine StepAt.guarded 31 151 false _ rfl rfl rfl (by decide) (by kernel_rfl) (c4 && !b5) (by intro w v h; (have h : v = gv (c4) (.bool b5) := h); rw [h]; (cases c4 <;> cases b5 <;> simp [gv, undef])) (by intro h w; show undef = gv (c4 && !b5) _; rw [h]; rfl) ?_
      intro hc f w' hG hfr hp Kx hK
      have g153 : f 153 = gv (c4 && !b5) (.int .i64 xn) := hp 33 _ 153 rfl rfl (by kernel_rfl)
      have g159 : f 159 = gv (c4 && !b5) (.int .i64 ((z : Int) - xa % (z : Int))) := hp 39 _ 159 rfl rfl (by kernel_rfl)
      clear hfr hp
      have hq : c4 = true ∧ b5 = false := by revert hc; cases c4 <;> cases b5 <;> decide
      have hbd := HB4.out hq.1
      obtain ⟨rfl, rfl⟩ := hq
      simp only [gv_true, gv_false, Bool.not_false, Bool.not_true, Bool.and_true, Bool.true_and] at g153 g159
      go_simp
      exact hK _ _ (congrArg Value.bool (by first | exact HB6.out.symm | (rw [HB6.out]; exact (decide_eq_true (by omega)).symm) | (rw [HB6.out]; exact (decide_eq_false (by omega)).symm))) hG (Below.refl _ _)
    · refine StepAt.guarded 27 147 true _ rfl rfl rfl (by decide) (by kernel_rfl) (c4) (by intro w v h; (have h : v = .bool c4 := h); rw [h]; (cases c4 <;> simp [gv, undef])) (by intro h w; show undef = gv (c4) _; rw [h]; rfl) ?_
      intro hc f w' hG hfr hp Kx hK
      have g151 : f 151 = gv (c4) (.bool b5) := hp 31 _ 151 rfl rfl (by kernel_rfl)
      have g160 : f 160 = gv (c4 && !b5) (.bool b6) := hp 40 _ 160 rfl rfl (by kernel_rfl)
      clear hfr hp
      have hbd := HB4.out hc
      subst hc
      simp only [gv_true, gv_false, Bool.not_false, Bool.not_true, Bool.and_true, Bool.true_and] at g151 g160
      cases b5 <;> (simp only [gv_true, gv_false, Bool.not_true, Bool.not_false, Bool.and_true, Bool.and_false] at g160; go_simp; exact hK _ _ rfl hG (Below.refl _ _))
    · refine StepAt.plain rfl ?_
      intro f w' hG hfr hp Kx hK
      have g147 : f 147 = .bool c4 := hp 27 _ 147 rfl rfl (by kernel_rfl)
      have g161 : f 161 = gv (c4) (.bool (b5 || b6)) := hp 41 _ 161 rfl rfl (by kernel_rfl)
      clear hfr hp
      cases c4 <;> (simp only [gv_true, gv_false] at g161; go_simp; exact hK _ _ (congrArg Value.bool HC5.out.symm) hG (Below.refl _ _))
    · refine StepAt.plain rfl ?_
      intro f w' hG hfr hp Kx hK
      have g162 : f 162 = .bool c5 := hp 42 _ 162 rfl rfl (by kernel_rfl)
      clear hfr hp
      go_simp
      exact hK _ _ rfl hG (Below.refl _ _)
  · intro f2 w' hG hfr hR
    have y0 : f2 0 = .int .i64 (z : Int) := hfr 0 (by kernel_rfl)
    have y5 : f2 5 = .pointer (some ⟨d, 0, none⟩) := hfr 5 (by kernel_rfl)
    have y6 : f2 6 = .pointer (some ⟨b, 0, none⟩) := hfr 6 (by kernel_rfl)
    have y8 : f2 8 = .pointer (some ⟨K, 0, none⟩) := hfr 8 (by kernel_rfl)
    have y10 : f2 10 = .pointer (some ⟨K2, 0, none⟩) := hfr 10 (by kernel_rfl)
    have y14 : f2 14 = .string rs := hfr 14 (by kernel_rfl)
    have y15 : f2 15 = .int .i64 rf := hfr 15 (by kernel_rfl)
    have y1 : f2 1 = f 1 := hfr 1 (by kernel_rfl)
    have y51 : f2 51 = f 51 := hfr 51 (by kernel_rfl)
    have y52 : f2 52 = f 52 := hfr 52 (by kernel_rfl)
    have y53 : f2 53 = f 53 := hfr 53 (by kernel_rfl)
    have y16 : f2 16 = .bool c5 := hR 43 _ 16 rfl rfl
    have HG := Lib.hid hG
    rw [fr_lit380 f2, y0, y1, y5, y6, y8, y10, y14, y15, y16, y51, y52, y53]
    clear hR hG hfr y0 y1 y5 y6 y8 y10 y14 y15 y16 y51 y52 y53
    have hb6 := HG.out
    have HX6 := Lib.hid (HX5.out.new hb6)
    have HP6 := Lib.hid (HP5.out.new (Chg.of_below hb6))
    obtain ⟨x0, x1, x2, x3, o0', o1', o2', o3', zz⟩ := HX6.out
    simp only at o0' o1' o2' o3'
    clear zz hb6
    by_cases hin : InR z bg E xa xn
    · have h5 : c5 = true := HIN.out.2 hin
      obtain ⟨rfl, hrs⟩ := HI1.out hin
      obtain ⟨p1, p2, p3, p4, p5⟩ := hin
      obtain ⟨A, rfl⟩ : ∃ A : Nat, xa = (A : Int) := ⟨xa.toNat, by omega⟩
      obtain ⟨m, rfl⟩ : ∃ m : Nat, xn = (m : Int) := ⟨xn.toNat, by omega⟩
      obtain ⟨D, hD⟩ : ∃ D, D = A - bg := ⟨_, rfl⟩
      obtain ⟨M, hM⟩ : ∃ M, M = D + m := ⟨_, rfl⟩
      have hE := HE.out
      have e1 : (A : Int) - (bg : Int) = (D : Int) := by omega
      have e2 : (D : Int) + (m : Int) = (M : Int) := by omega
      have e3 : D ≤ M := by omega
      have e4 : M ≤ s.size := by omega
      have e5 : (D : Int) ≤ (M : Int) := by omega
      have e6 : (M : Int) ≤ (s.size : Int) := by omega
      have hsl : s.extract D M = rs := by
        rw [hrs, HS.out, cut_ext B D M e3]
        congr 3
        · simp only [Int.toNat_natCast]; omega
        · rw [hD]; simp only [Int.toNat_natCast]
      subst h5
      clear hrs p1 p2 p3 p4 p5 hD hM hE
      go_wp2_with fail
      refine HJ.out _ _ ⟨_, lit_fr380 _ rfl, f0.symm, rfl, f5.symm, f8.symm, f10.symm, rfl, rfl, rfl, ?rel⟩
      case rel => exact ⟨b, i0, B, sy, any, rfl, HP6.out.more (by omega)⟩
    · have h5 : c5 = false := by cases h : c5 with | false => rfl | true => exact absurd (HIN.out.1 h) hin
      obtain ⟨rfl, rfl⟩ := HI2.out hin
      subst h5
      clear hin
      go_wp2_with fail
      refine HJ.out _ _ ⟨_, lit_fr380 _ rfl, f0.symm, rfl, f5.symm, f8.symm, f10.symm, rfl, rfl, rfl, ?rel⟩
      case rel => exact ⟨b, i0, B, sy, any, rfl, HP6.out.more (by omega)⟩
end Go.Proofs.YtgephceihkkokaaGreatDoor

/-! ### SPc2 -/
namespace Go.Proofs.YtgephceihkkokaaGreatDoor
open Go.RowKit Go.Deep
set_option linter.unusedVariables false
set_option linter.unusedSimpArgs false
attribute [local go_sem] fr_opt
set_option maxHeartbeats 16000000 in
set_option maxRecDepth 100000 in
theorem sw_2 (f : Nat → Value) (w1 w4 : World) (b d k z i0 : Nat) (B : List UInt8) (sy : Int) (any : Bool) (K K2 : Nat) (s : ByteArray) (bg E R : Nat) (x : OpR) (h : SwIn f w1 w4 b d k z i0 B sy any K K2 s bg E R x) (J : Act → World → Prop) (Q : Exit → Act → World → Prop) (hJ : ∀ a w, SwI f w1 d (2 * k + 2) z K K2 x a w → J a w) (k2 : x.k = 2) :
    Code.wp Tryz.prog swC (Exit.then J Q) (Fr 380 f) w4 := by
  obtain ⟨f0, f5, f6, f8, f10, f11, f68, hpx, hk, hs, hss, hbg, hE, hR, hz1, hz2, hE9, hxs⟩ := id h
  have HEND := Lib.hid (fun W => h.end_ W)
  have hRz : R < z := by rw [hR]; exact Nat.mod_lt _ (by omega)
  have hbg9 : bg ≤ 99000000 := by omega
  have hss9 : s.size ≤ 99000000 := by omega
  have hbg9 : bg ≤ 99000000 := by omega
  have hss9 : s.size ≤ 99000000 := by omega
  have hz7 : ¬ (z : Int) = 0 := by omega
  have hz8 : ((z : Int) == 0) = false := by simpa using hz7
  have HP4 := Lib.hid hpx
  have HX4 : Hid (XCells w4 K K2 s bg sy any x) := Lib.hid (xcells_of hpx.1 hs hbg)
  have HS := Lib.hid hs
  have HSS := Lib.hid hss
  have HBG := Lib.hid hbg
  have HE := Lib.hid hE
  have HR := Lib.hid hR
  clear h hpx hs hss hbg hE hR
  obtain ⟨xk, xa, xn, xs⟩ := x
  simp only at hxs f68
  obtain ⟨x0, x1, x2, x3, o0', o1', o2', o3', zz⟩ := HX4.out
  simp only at o0' o1' o2' o3'
  clear zz
  have HJ := Lib.hid hJ
  clear hJ
  rw [fr_lit380 f, f0, f5, f6, f8, f10, f11, f68]
  simp only at k2
  conv => arg 2; whnf
  subst k2
  have hc := playx_sync HP4.out.1 (by omega)
  rw [← HBG.out, ← HSS.out, ← HE.out] at hc
  have HC := Lib.hid hc
  clear hc
  go_wp2_with fail
  refine HC.out.mono ?_
  rintro e w5 ⟨rfl, hp5⟩
  have HP5 := Lib.hid hp5
  have HX5 : Hid (XCells w5 K K2 s bg sy any ⟨2, xa, xn, xs⟩) := Lib.hid (xcells_of hp5 HS.out (by first | rfl | exact HBG.out))
  clear hp5 x0 x1 x2 x3 o0' o1' o2' o3'
  obtain ⟨x0, x1, x2, x3, o0', o1', o2', o3', zz⟩ := HX5.out
  simp only at o0' o1' o2' o3'
  clear zz
  go_wp2_with fail
  refine (HEND.out _).mono ?_
  rintro e w6 ⟨rfl, hb6⟩
  have HX6 := Lib.hid (HX5.out.new hb6)
  have HP6 := Lib.hid (HP5.out.new (Chg.of_below hb6))
  clear hb6 x0 x1 x2 x3 o0' o1' o2' o3'
  obtain ⟨x0, x1, x2, x3, o0', o1', o2', o3', zz⟩ := HX6.out
  simp only at o0' o1' o2' o3'
  have z2 := zz 2
  clear zz
  go_wp2_with fail
  refine HJ.out _ _ ⟨_, lit_fr380 _ rfl, f0.symm, rfl, f5.symm, f8.symm, f10.symm, rfl, rfl, rfl, ?rel⟩
  case rel =>
    have h1 := HP6.out.set (fun p hp => by rw [List.mem_singleton] at hp; subst hp; exact Ne.symm HP4.out.2) 2 (.int .i64 (E : Int))
    rw [HBG.out] at h1
    exact ⟨b, i0, B, (E : Int), any, rfl, PlayX.more (n' := 2 * k + 2) h1 (by omega), HP4.out.2⟩
end Go.Proofs.YtgephceihkkokaaGreatDoor

/-! ### SPc3 -/
namespace Go.Proofs.YtgephceihkkokaaGreatDoor
open Go.RowKit Go.Deep
set_option linter.unusedVariables false
set_option linter.unusedSimpArgs false
attribute [local go_sem] fr_opt
set_option maxHeartbeats 16000000 in
set_option maxRecDepth 100000 in
theorem sw_3 (f : Nat → Value) (w1 w4 : World) (b d k z i0 : Nat) (B : List UInt8) (sy : Int) (any : Bool) (K K2 : Nat) (s : ByteArray) (bg E R : Nat) (x : OpR) (h : SwIn f w1 w4 b d k z i0 B sy any K K2 s bg E R x) (J : Act → World → Prop) (Q : Exit → Act → World → Prop) (hJ : ∀ a w, SwI f w1 d (2 * k + 2) z K K2 x a w → J a w) (k3 : x.k = 3) :
    Code.wp Tryz.prog swC (Exit.then J Q) (Fr 380 f) w4 := by
  obtain ⟨f0, f5, f6, f8, f10, f11, f68, hpx, hk, hs, hss, hbg, hE, hR, hz1, hz2, hE9, hxs⟩ := id h
  have HEND := Lib.hid (fun W => h.end_ W)
  have hRz : R < z := by rw [hR]; exact Nat.mod_lt _ (by omega)
  have hbg9 : bg ≤ 99000000 := by omega
  have hss9 : s.size ≤ 99000000 := by omega
  have hbg9 : bg ≤ 99000000 := by omega
  have hss9 : s.size ≤ 99000000 := by omega
  have hz7 : ¬ (z : Int) = 0 := by omega
  have hz8 : ((z : Int) == 0) = false := by simpa using hz7
  have HP4 := Lib.hid hpx
  have HX4 : Hid (XCells w4 K K2 s bg sy any x) := Lib.hid (xcells_of hpx.1 hs hbg)
  have HS := Lib.hid hs
  have HSS := Lib.hid hss
  have HBG := Lib.hid hbg
  have HE := Lib.hid hE
  have HR := Lib.hid hR
  clear h hpx hs hss hbg hE hR
  obtain ⟨xk, xa, xn, xs⟩ := x
  simp only at hxs f68
  obtain ⟨x0, x1, x2, x3, o0', o1', o2', o3', zz⟩ := HX4.out
  simp only at o0' o1' o2' o3'
  clear zz
  have HJ := Lib.hid hJ
  clear hJ
  rw [fr_lit380 f, f0, f5, f6, f8, f10, f11, f68]
  simp only at k3
  conv => arg 2; whnf
  subst k3
  obtain ⟨c1, hc1⟩ : ∃ c, c = decide ((bg : Int) ≤ xa) := ⟨_, rfl⟩
  obtain ⟨b2, hb2'⟩ : ∃ c, c = decide (xa ≤ (E : Int)) := ⟨_, rfl⟩
  obtain ⟨c2, hc2⟩ : ∃ c, c = (c1 && b2) := ⟨_, rfl⟩
  have HIN : Hid (c2 = true ↔ ((bg : Int) ≤ xa ∧ xa ≤ (E : Int))) := Lib.hid (by
    rw [hc2, hc1, hb2']
    simp only [Bool.and_eq_true, decide_eq_true_eq])
  have HC1 := Lib.hid hc1
  have HB2 := Lib.hid hb2'
  have HC2 := Lib.hid hc2
  clear hc1 hb2' hc2
  by_cases hin : (bg : Int) ≤ xa ∧ xa ≤ (E : Int)
  · have H5 := Lib.hid (HIN.out.2 hin)
    obtain ⟨A, rfl⟩ : ∃ A : Nat, xa = (A : Int) := ⟨xa.toNat, by omega⟩
    have hc := playx_cut HP4.out.1 (by omega) A (by rw [← HBG.out]; omega) (by rw [← HBG.out, ← HSS.out, ← HE.out]; omega)
    have HC := Lib.hid hc
    clear hc
    go_wp2_with fail
    refine HC.out.mono ?_
    rintro e w5 ⟨rfl, hp5⟩
    have HP5 := Lib.hid hp5
    have HX5 : Hid (XCells w5 K K2 s bg sy any ⟨3, (A : Int), xn, xs⟩) := Lib.hid (xcells_of hp5 HS.out (by first | rfl | exact HBG.out))
    have HINP := Lib.hid hin
    clear hp5 x0 x1 x2 x3 o0' o1' o2' o3' hin
    go_upto_region 39 with fail
    refine region_inv' (n := 380) rfl rfl (by kernel_rfl) (by kernel_rfl) (fun i v _ => match i with | 0 => v = .pointer (some ⟨K2, 1, none⟩) | 1 => v = .int .i64 (A : Int) | 2 => v = .pointer (some ⟨K, 1, none⟩) | 3 => v = .int .i64 (bg : Int) | 4 => v = .bool c1 | 5 => v = .bool c1 | 6 => v = gv (c1) (.pointer (some ⟨K2, 1, none⟩)) | 7 => v = gv (c1) (.int .i64 (A : Int)) | 8 => v = gv (c1) (.agg #[.string s, .int .i64 (bg : Int), .int .i64 sy, .bool any]) | 9 => v = gv (c1) (.int .i64 (E : Int)) | 10 => v = gv (c1) (.bool b2) | 11 => v = .bool c2 | 12 => v = .bool c2 | _ => True)
      (fun w' => Below w5.heap.size w5 w') (fun w' w2 => Below w5.heap.size w' w2) (fun w' => Below.refl _ _) (fun _ _ _ _ _ h => h) (Below.refl _ _).drew ?_ ?_
    · simp only [AllAt]
      refine ⟨?_, ?_, ?_, ?_, ?_, ?_, ?_, ?_, ?_, ?_, ?_, ?_, ?_, trivial⟩
      · refine StepAt.plain rfl ?_
        intro f w' hG hfr hp Kx hK
        have g10 : f 10 = .pointer (some ⟨K2, 0, none⟩) := hfr 10 (by kernel_rfl)
        clear hfr hp
        go_simp
        exact hK _ _ rfl hG (Below.refl _ _)
      · refine StepAt.plain rfl ?_
        intro f w' hG hfr hp Kx hK
        have g214 : f 214 = .pointer (some ⟨K2, 1, none⟩) := hp 0 _ 214 rfl rfl (by kernel_rfl)
        clear hfr hp
        have q := (HX5.out.new hG).o1
        try simp only at q
        go_simp
        exact hK _ _ rfl hG (Below.refl _ _)
      · refine StepAt.plain rfl ?_
        intro f w' hG hfr hp Kx hK
        have g8 : f 8 = .pointer (some ⟨K, 0, none⟩) := hfr 8 (by kernel_rfl)
        clear hfr hp
        go_simp
        exact hK _ _ rfl hG (Below.refl _ _)
      · refine StepAt.plain rfl ?_
        intro f w' hG hfr hp Kx hK
        have g216 : f 216 = .pointer (some ⟨K, 1, none⟩) := hp 2 _ 216 rfl rfl (by kernel_rfl)
        clear hfr hp
        have q := (HX5.out.new hG).x1
        try simp only at q
        go_simp
        exact hK _ _ rfl hG (Below.refl _ _)
      · refine StepAt.plain rfl ?_
        intro f w' hG hfr hp Kx hK
        have g215 : f 215 = .int .i64 (A : Int) := hp 1 _ 215 rfl rfl (by kernel_rfl)
        have g217 : f 217 = .int .i64 (bg : Int) := hp 3 _ 217 rfl rfl (by kernel_rfl)
        clear hfr hp
        go_simp
        exact hK _ _ (congrArg Value.bool (by first | exact HC1.out.symm | (rw [HC1.out]; simp; done) | (rw [HC1.out]; exact (decide_eq_true (by omega)).symm) | (rw [HC1.out]; exact (decide_eq_false (by omega)).symm))) hG (Below.refl _ _)
      · refine StepAt.plain rfl ?_
        intro f w' hG hfr hp Kx hK
        have g218 : f 218 = .bool c1 := hp 4 _ 218 rfl rfl (by kernel_rfl)
        clear hfr hp
        go_simp
        exact hK _ _ rfl hG (Below.refl _ _)
      · refine StepAt.guarded 5 219 true _ rfl rfl rfl (by decide) (by kernel_rfl) (c1) (by intro w v h; (have h : v = .bool c1 := h); rw [h]; (cases c1 <;> simp [gv, undef])) (by intro h w; show undef = gv (c1) _; rw [h]; rfl) ?_
        intro hc f w' hG hfr hp Kx hK
        have g10 : f 10 = .pointer (some ⟨K2, 0, none⟩) := hfr 10 (by kernel_rfl)
        clear hfr hp
        subst hc
        go_simp
        exact hK _ _ rfl hG (Below.refl _ _)
      · refine StepAt.guarded 5 219 true _ rfl rfl rfl (by decide) (by kernel_rfl) (c1) (by intro w v h; (have h : v = .bool c1 := h); rw [h]; (cases c1 <;> simp [gv, undef])) (by intro h w; show undef = gv (c1) _; rw [h]; rfl) ?_
        intro hc f w' hG hfr hp Kx hK
        have g220 : f 220 = gv (c1) (.pointer (some ⟨K2, 1, none⟩)) := hp 6 _ 220 rfl rfl (by kernel_rfl)
        clear hfr hp
        subst hc
        simp only [gv_true, gv_false, Bool.not_false, Bool.not_true, Bool.and_true, Bool.true_and] at g220
        have q := (HX5.out.new hG).o1
        try simp only at q
        go_simp
        exact hK _ _ rfl hG (Below.refl _ _)
      · refine StepAt.guarded 5 219 true _ rfl rfl rfl (by decide) (by kernel_rfl) (c1) (by intro w v h; (have h : v = .bool c1 := h); rw [h]; (cases c1 <;> simp [gv, undef])) (by intro h w; show undef = gv (c1) _; rw [h]; rfl) ?_
        intro hc f w' hG hfr hp Kx hK
        have g8 : f 8 = .pointer (some ⟨K, 0, none⟩) := hfr 8 (by kernel_rfl)
        clear hfr hp
        subst hc
        obtain ⟨q0, q1, q2, q3, q4, q5, q6, q7, q8⟩ := HX5.out.new hG
        clear q4 q5 q6 q7 q8
        go_simp
        exact hK _ _ rfl hG (Below.refl _ _)
      · refine StepAt.guarded 5 219 true _ rfl rfl rfl (by decide) (by kernel_rfl) (c1) (by intro w v h; (have h : v = .bool c1 := h); rw [h]; (cases c1 <;> simp [gv, undef])) (by intro h w; show undef = gv (c1) _; rw [h]; rfl) ?_
        intro hc f w' hG hfr hp Kx hK
        have g222 : f 222 = gv (c1) (.agg #[.string s, .int .i64 (bg : Int), .int .i64 sy, .bool any]) := hp 8 _ 222 rfl rfl (by kernel_rfl)
        clear hfr hp
        subst hc
        simp only [gv_true, gv_false, Bool.not_false, Bool.not_true, Bool.and_true, Bool.true_and] at g222
        go_simp
        refine (HEND.out w').mono ?_
        rintro e w2 ⟨rfl, hb⟩
        exact hK _ _ rfl (Below.trans hG (Below.mono hb hG.size)) (Below.mono hb hG.size)
      · refine StepAt.guarded 5 219 true _ rfl rfl rfl (by decide) (by kernel_rfl) (c1) (by intro w v h; (have h : v = .bool c1 := h); rw [h]; (cases c1 <;> simp [gv, undef])) (by intro h w; show undef = gv (c1) _; rw [h]; rfl) ?_
        intro hc f w' hG hfr hp Kx hK
        have g221 : f 221 = gv (c1) (.int .i64 (A : Int)) := hp 7 _ 221 rfl rfl (by kernel_rfl)
        have g223 : f 223 = gv (c1) (.int .i64 (E : Int)) := hp 9 _ 223 rfl rfl (by kernel_rfl)
        clear hfr hp
        subst hc
        simp only [gv_true, gv_false, Bool.not_false, Bool.not_true, Bool.and_true, Bool.true_and] at g221 g223
        go_simp
        exact hK _ _ (congrArg Value.bool (by first | exact HB2.out.symm | (rw [HB2.out]; simp; done) | (rw [HB2.out]; exact (decide_eq_true (by omega)).symm) | (rw [HB2.out]; exact (decide_eq_false (by omega)).symm))) hG (Below.refl _ _)
      · refine StepAt.plain rfl ?_
        intro f w' hG hfr hp Kx hK
        have g219 : f 219 = .bool c1 := hp 5 _ 219 rfl rfl (by kernel_rfl)
        have g224 : f 224 = gv (c1) (.bool b2) := hp 10 _ 224 rfl rfl (by kernel_rfl)
        clear hfr hp
        cases c1 <;> (simp only [gv_true, gv_false] at g224; go_simp; exact hK _ _ (congrArg Value.bool HC2.out.symm) hG (Below.refl _ _))
      · refine StepAt.plain rfl ?_
        intro f w' hG hfr hp Kx hK
        have g225 : f 225 = .bool c2 := hp 11 _ 225 rfl rfl (by kernel_rfl)
        clear hfr hp
        go_simp
        exact hK _ _ rfl hG (Below.refl _ _)
    · intro f2 w' hG hfr hR
      have y0 : f2 0 = .int .i64 (z : Int) := hfr 0 (by kernel_rfl)
      have y5 : f2 5 = .pointer (some ⟨d, 0, none⟩) := hfr 5 (by kernel_rfl)
      have y6 : f2 6 = .pointer (some ⟨b, 0, none⟩) := hfr 6 (by kernel_rfl)
      have y8 : f2 8 = .pointer (some ⟨K, 0, none⟩) := hfr 8 (by kernel_rfl)
      have y10 : f2 10 = .pointer (some ⟨K2, 0, none⟩) := hfr 10 (by kernel_rfl)
      have y17 : f2 17 = .int .i64 0 := hfr 17 (by kernel_rfl)
      have y1 : f2 1 = f 1 := hfr 1 (by kernel_rfl)
      have y51 : f2 51 = f 51 := hfr 51 (by kernel_rfl)
      have y52 : f2 52 = f 52 := hfr 52 (by kernel_rfl)
      have y53 : f2 53 = f 53 := hfr 53 (by kernel_rfl)
      have y18 : f2 18 = .bool c2 := hR 12 _ 18 rfl rfl
      have HG := Lib.hid hG
      rw [fr_lit380 f2, y0, y1, y5, y6, y8, y10, y17, y18, y51, y52, y53]
      clear hR hG hfr y0 y1 y5 y6 y8 y10 y17 y18 y51 y52 y53
      have hb6 := HG.out
      have HX6 := Lib.hid (HX5.out.new hb6)
      have HP6 := Lib.hid (HP5.out.new (Chg.of_below hb6))
      obtain ⟨x0, x1, x2, x3, o0', o1', o2', o3', zz⟩ := HX6.out
      simp only at o0' o1' o2' o3'
      have z0 := zz 0
      have z2 := zz 2
      clear zz hb6
      have h5 := H5.out
      have hin := HINP.out
      subst h5
      obtain ⟨D, hD⟩ : ∃ D, D = A - bg := ⟨_, rfl⟩
      have hE := HE.out
      have e1 : (A : Int) - (bg : Int) = (D : Int) := by omega
      have e4 : D ≤ s.size := by omega
      have e6 : (D : Int) ≤ (s.size : Int) := by omega
      have e7 : (0 : Int) ≤ (D : Int) := by omega
      have e8 : D ≤ 99000000 := by omega
      obtain ⟨t, ht⟩ : ∃ t : ByteArray, t = ⟨(B.take (A - z * i0)).toArray⟩ := ⟨_, rfl⟩
      have hsl : s.extract 0 D = t := by
        rw [ht, HS.out, cut_ext B 0 D (Nat.zero_le _), hD, HBG.out]
        simp
      have HT9 := Lib.hid ht
      clear ht hD hE hin
      go_wp2_with fail
      refine HJ.out _ _ ⟨_, lit_fr380 _ rfl, f0.symm, rfl, f5.symm, f8.symm, f10.symm, rfl, rfl, rfl, ?rel⟩
      case rel =>
        have hq : ∀ p ∈ [(K2, oC ⟨3, (A : Int), xn, xs⟩)], p.1 ≠ K := fun p hp => by rw [List.mem_singleton] at hp; subst hp; exact Ne.symm HP4.out.2
        have h1 := (HP6.out.set hq 0 (.string t)).set hq 2 (.int .i64 (min sy (A : Int)))
        refine ⟨b, i0, B.take (A - z * i0), min sy (A : Int), any, rfl, ?_, HP4.out.2⟩
        rw [HT9.out] at h1 ⊢
        exact PlayX.more (n' := 2 * k + 2) h1 (by omega)
  · have H5 : Hid (c2 = false) := Lib.hid (by cases h : c2 with | false => rfl | true => exact absurd (HIN.out.1 h) hin)
    have hc := playx_cut_bad HP4.out.1 xa (by rw [← HBG.out, ← HSS.out, ← HE.out]; omega)
    have HC := Lib.hid hc
    clear hc
    go_wp2_with fail
    refine HC.out.mono ?_
    rintro e w5 ⟨rfl, hp5⟩
    have HP5 := Lib.hid hp5
    have HX5 : Hid (XCells w5 K K2 s bg sy any ⟨3, xa, xn, xs⟩) := Lib.hid (xcells_of hp5 HS.out (by first | rfl | exact HBG.out))
    clear hp5 x0 x1 x2 x3 o0' o1' o2' o3' hin
    go_upto_region 39 with fail
    refine region_inv' (n := 380) rfl rfl (by kernel_rfl) (by kernel_rfl) (fun i v _ => match i with | 0 => v = .pointer (some ⟨K2, 1, none⟩) | 1 => v = .int .i64 xa | 2 => v = .pointer (some ⟨K, 1, none⟩) | 3 => v = .int .i64 (bg : Int) | 4 => v = .bool c1 | 5 => v = .bool c1 | 6 => v = gv (c1) (.pointer (some ⟨K2, 1, none⟩)) | 7 => v = gv (c1) (.int .i64 xa) | 8 => v = gv (c1) (.agg #[.string s, .int .i64 (bg : Int), .int .i64 sy, .bool any]) | 9 => v = gv (c1) (.int .i64 (E : Int)) | 10 => v = gv (c1) (.bool b2) | 11 => v = .bool c2 | 12 => v = .bool c2 | _ => True)
      (fun w' => Below w5.heap.size w5 w') (fun w' w2 => Below w5.heap.size w' w2) (fun w' => Below.refl _ _) (fun _ _ _ _ _ h => h) (Below.refl _ _).drew ?_ ?_
    · simp only [AllAt]
      refine ⟨?_, ?_, ?_, ?_, ?_, ?_, ?_, ?_, ?_, ?_, ?_, ?_, ?_, trivial⟩
      · refine StepAt.plain rfl ?_
        intro f w' hG hfr hp Kx hK
        have g10 : f 10 = .pointer (some ⟨K2, 0, none⟩) := hfr 10 (by kernel_rfl)
        clear hfr hp
        go_simp
        exact hK _ _ rfl hG (Below.refl _ _)
      · refine StepAt.plain rfl ?_
        intro f w' hG hfr hp Kx hK
        have g214 : f 214 = .pointer (some ⟨K2, 1, none⟩) := hp 0 _ 214 rfl rfl (by kernel_rfl)
        clear hfr hp
        have q := (HX5.out.new hG).o1
        try simp only at q
        go_simp
        exact hK _ _ rfl hG (Below.refl _ _)
      · refine StepAt.plain rfl ?_
        intro f w' hG hfr hp Kx hK
        have g8 : f 8 = .pointer (some ⟨K, 0, none⟩) := hfr 8 (by kernel_rfl)
        clear hfr hp
        go_simp
        exact hK _ _ rfl hG (Below.refl _ _)
      · refine StepAt.plain rfl ?_
        intro f w' hG hfr hp Kx hK
        have g216 : f 216 = .pointer (some ⟨K, 1, none⟩) := hp 2 _ 216 rfl rfl (by kernel_rfl)
        clear hfr hp
        have q := (HX5.out.new hG).x1
        try simp only at q
        go_simp
        exact hK _ _ rfl hG (Below.refl _ _)
      · refine StepAt.plain rfl ?_
        intro f w' hG hfr hp Kx hK
        have g215 : f 215 = .int .i64 xa := hp 1 _ 215 rfl rfl (by kernel_rfl)
        have g217 : f 217 = .int .i64 (bg : Int) := hp 3 _ 217 rfl rfl (by kernel_rfl)
        clear hfr hp
        go_simp
        exact hK _ _ (congrArg Value.bool (by first | exact HC1.out.symm | (rw [HC1.out]; simp; done) | (rw [HC1.out]; exact (decide_eq_true (by omega)).symm) | (rw [HC1.out]; exact (decide_eq_false (by omega)).symm))) hG (Below.refl _ _)
      · refine StepAt.plain rfl ?_
        intro f w' hG hfr hp Kx hK
        have g218 : f 218 = .bool c1 := hp 4 _ 218 rfl rfl (by kernel_rfl)
        clear hfr hp
        go_simp
        exact hK _ _ rfl hG (Below.refl _ _)
      · refine StepAt.guarded 5 219 true _ rfl rfl rfl (by decide) (by kernel_rfl) (c1) (by intro w v h; (have h : v = .bool c1 := h); rw [h]; (cases c1 <;> simp [gv, undef])) (by intro h w; show undef = gv (c1) _; rw [h]; rfl) ?_
        intro hc f w' hG hfr hp Kx hK
        have g10 : f 10 = .pointer (some ⟨K2, 0, none⟩) := hfr 10 (by kernel_rfl)
        clear hfr hp
        subst hc
        go_simp
        exact hK _ _ rfl hG (Below.refl _ _)
      · refine StepAt.guarded 5 219 true _ rfl rfl rfl (by decide) (by kernel_rfl) (c1) (by intro w v h; (have h : v = .bool c1 := h); rw [h]; (cases c1 <;> simp [gv, undef])) (by intro h w; show undef = gv (c1) _; rw [h]; rfl) ?_
        intro hc f w' hG hfr hp Kx hK
        have g220 : f 220 = gv (c1) (.pointer (some ⟨K2, 1, none⟩)) := hp 6 _ 220 rfl rfl (by kernel_rfl)
        clear hfr hp
        subst hc
        simp only [gv_true, gv_false, Bool.not_false, Bool.not_true, Bool.and_true, Bool.true_and] at g220
        have q := (HX5.out.new hG).o1
        try simp only at q
        go_simp
        exact hK _ _ rfl hG (Below.refl _ _)
      · refine StepAt.guarded 5 219 true _ rfl rfl rfl (by decide) (by kernel_rfl) (c1) (by intro w v h; (have h : v = .bool c1 := h); rw [h]; (cases c1 <;> simp [gv, undef])) (by intro h w; show undef = gv (c1) _; rw [h]; rfl) ?_
        intro hc f w' hG hfr hp Kx hK
        have g8 : f 8 = .pointer (some ⟨K, 0, none⟩) := hfr 8 (by kernel_rfl)
        clear hfr hp
        subst hc
        obtain ⟨q0, q1, q2, q3, q4, q5, q6, q7, q8⟩ := HX5.out.new hG
        clear q4 q5 q6 q7 q8
        go_simp
        exact hK _ _ rfl hG (Below.refl _ _)
      · refine StepAt.guarded 5 219 true _ rfl rfl rfl (by decide) (by kernel_rfl) (c1) (by intro w v h; (have h : v = .bool c1 := h); rw [h]; (cases c1 <;> simp [gv, undef])) (by intro h w; show undef = gv (c1) _; rw [h]; rfl) ?_
        intro hc f w' hG hfr hp Kx hK
        have g222 : f 222 = gv (c1) (.agg #[.string s, .int .i64 (bg : Int), .int .i64 sy, .bool any]) := hp 8 _ 222 rfl rfl (by kernel_rfl)
        clear hfr hp
        subst hc
        simp only [gv_true, gv_false, Bool.not_false, Bool.not_true, Bool.and_true, Bool.true_and] at g222
        go_simp
        refine (HEND.out w').mono ?_
        rintro e w2 ⟨rfl, hb⟩
        exact hK _ _ rfl (Below.trans hG (Below.mono hb hG.size)) (Below.mono hb hG.size)
      · refine StepAt.guarded 5 219 true _ rfl rfl rfl (by decide) (by kernel_rfl) (c1) (by intro w v h; (have h : v = .bool c1 := h); rw [h]; (cases c1 <;> simp [gv, undef])) (by intro h w; show undef = gv (c1) _; rw [h]; rfl) ?_
        intro hc f w' hG hfr hp Kx hK
        have g221 : f 221 = gv (c1) (.int .i64 xa) := hp 7 _ 221 rfl rfl (by kernel_rfl)
        have g223 : f 223 = gv (c1) (.int .i64 (E : Int)) := hp 9 _ 223 rfl rfl (by kernel_rfl)
        clear hfr hp
        subst hc
        simp only [gv_true, gv_false, Bool.not_false, Bool.not_true, Bool.and_true, Bool.true_and] at g221 g223
        go_simp
        exact hK _ _ (congrArg Value.bool (by first | exact HB2.out.symm | (rw [HB2.out]; simp; done) | (rw [HB2.out]; exact (decide_eq_true (by omega)).symm) | (rw [HB2.out]; exact (decide_eq_false (by omega)).symm))) hG (Below.refl _ _)
      · refine StepAt.plain rfl ?_
        intro f w' hG hfr hp Kx hK
        have g219 : f 219 = .bool c1 := hp 5 _ 219 rfl rfl (by kernel_rfl)
        have g224 : f 224 = gv (c1) (.bool b2) := hp 10 _ 224 rfl rfl (by kernel_rfl)
        clear hfr hp
        cases c1 <;> (simp only [gv_true, gv_false] at g224; go_simp; exact hK _ _ (congrArg Value.bool HC2.out.symm) hG (Below.refl _ _))
      · refine StepAt.plain rfl ?_
        intro f w' hG hfr hp Kx hK
        have g225 : f 225 = .bool c2 := hp 11 _ 225 rfl rfl (by kernel_rfl)
        clear hfr hp
        go_simp
        exact hK _ _ rfl hG (Below.refl _ _)
    · intro f2 w' hG hfr hR
      have y0 : f2 0 = .int .i64 (z : Int) := hfr 0 (by kernel_rfl)
      have y5 : f2 5 = .pointer (some ⟨d, 0, none⟩) := hfr 5 (by kernel_rfl)
      have y6 : f2 6 = .pointer (some ⟨b, 0, none⟩) := hfr 6 (by kernel_rfl)
      have y8 : f2 8 = .pointer (some ⟨K, 0, none⟩) := hfr 8 (by kernel_rfl)
      have y10 : f2 10 = .pointer (some ⟨K2, 0, none⟩) := hfr 10 (by kernel_rfl)
      have y17 : f2 17 = .int .i64 2 := hfr 17 (by kernel_rfl)
      have y1 : f2 1 = f 1 := hfr 1 (by kernel_rfl)
      have y51 : f2 51 = f 51 := hfr 51 (by kernel_rfl)
      have y52 : f2 52 = f 52 := hfr 52 (by kernel_rfl)
      have y53 : f2 53 = f 53 := hfr 53 (by kernel_rfl)
      have y18 : f2 18 = .bool c2 := hR 12 _ 18 rfl rfl
      have HG := Lib.hid hG
      rw [fr_lit380 f2, y0, y1, y5, y6, y8, y10, y17, y18, y51, y52, y53]
      clear hR hG hfr y0 y1 y5 y6 y8 y10 y17 y18 y51 y52 y53
      have hb6 := HG.out
      have HX6 := Lib.hid (HX5.out.new hb6)
      have HP6 := Lib.hid (HP5.out.new (Chg.of_below hb6))
      clear hb6
      have h5 := H5.out
      subst h5
      go_wp2_with fail
      refine HJ.out _ _ ⟨_, lit_fr380 _ rfl, f0.symm, rfl, f5.symm, f8.symm, f10.symm, rfl, rfl, rfl, ?rel⟩
      case rel => exact ⟨b, i0, B, sy, any, rfl, HP6.out.more (by omega), HP4.out.2⟩
end Go.Proofs.YtgephceihkkokaaGreatDoor

/-! ### SPc4 -/
namespace Go.Proofs.YtgephceihkkokaaGreatDoor
open Go.RowKit Go.Deep
set_option linter.unusedVariables false
set_option linter.unusedSimpArgs false
attribute [local go_sem] fr_opt
set_option maxHeartbeats 16000000 in
set_option maxRecDepth 100000 in
theorem sw_4 (f : Nat → Value) (w1 w4 : World) (b d k z i0 : Nat) (B : List UInt8) (sy : Int) (any : Bool) (K K2 : Nat) (s : ByteArray) (bg E R : Nat) (x : OpR) (h : SwIn f w1 w4 b d k z i0 B sy any K K2 s bg E R x) (J : Act → World → Prop) (Q : Exit → Act → World → Prop) (hJ : ∀ a w, SwI f w1 d (2 * k + 2) z K K2 x a w → J a w) (k4 : x.k = 4) :
    Code.wp Tryz.prog swC (Exit.then J Q) (Fr 380 f) w4 := by
  obtain ⟨f0, f5, f6, f8, f10, f11, f68, hpx, hk, hs, hss, hbg, hE, hR, hz1, hz2, hE9, hxs⟩ := id h
  have HEND := Lib.hid (fun W => h.end_ W)
  have hRz : R < z := by rw [hR]; exact Nat.mod_lt _ (by omega)
  have hbg9 : bg ≤ 99000000 := by omega
  have hss9 : s.size ≤ 99000000 := by omega
  have hbg9 : bg ≤ 99000000 := by omega
  have hss9 : s.size ≤ 99000000 := by omega
  have hz7 : ¬ (z : Int) = 0 := by omega
  have hz8 : ((z : Int) == 0) = false := by simpa using hz7
  have HP4 := Lib.hid hpx
  have HX4 : Hid (XCells w4 K K2 s bg sy any x) := Lib.hid (xcells_of hpx.1 hs hbg)
  have HS := Lib.hid hs
  have HSS := Lib.hid hss
  have HBG := Lib.hid hbg
  have HE := Lib.hid hE
  have HR := Lib.hid hR
  clear h hpx hs hss hbg hE hR
  obtain ⟨xk, xa, xn, xs⟩ := x
  simp only at hxs f68
  obtain ⟨x0, x1, x2, x3, o0', o1', o2', o3', zz⟩ := HX4.out
  simp only at o0' o1' o2' o3'
  clear zz
  have HJ := Lib.hid hJ
  clear hJ
  rw [fr_lit380 f, f0, f5, f6, f8, f10, f11, f68]
  simp only at k4
  conv => arg 2; whnf
  subst k4
  by_cases hzb : z < s.size
  · have hBz : z < B.length := by rw [← HSS.out]; omega
    have hc := playx_drop HP4.out.1 (by omega) hBz
    have HC := Lib.hid hc
    clear hc
    go_wp2_with fail
    refine HC.out.mono ?_
    rintro e w5 ⟨rfl, hp5⟩
    have hl := play_list_any hp5.play (by omega)
    have HL := Lib.hid hl
    have HP5 := Lib.hid hp5
    have HX5 : Hid (XCells w5 K K2 s bg sy any ⟨4, xa, xn, xs⟩) := Lib.hid (xcells_of hp5 HS.out (by first | rfl | exact HBG.out))
    clear hp5 hl x0 x1 x2 x3 o0' o1' o2' o3'
    go_wp2_with fail
    refine HL.out.mono ?_
    rintro e w6 ⟨v, ts, rfl, hsv, hb6⟩
    obtain ⟨la, lc, hlv, -⟩ := hsv
    obtain ⟨tn, htn⟩ : ∃ n, n = ts.length := ⟨_, rfl⟩
    rw [← htn] at hlv
    subst hlv
    clear htn
    have HX6 := Lib.hid (HX5.out.new hb6)
    have HP6 := Lib.hid (HP5.out.new (Chg.of_below hb6))
    clear hb6
    have hbz : ((bg : Int) + (z : Int) < (E : Int)) := by have := HE.out; omega
    go_upto_region 48 with fail
    refine region_inv' (n := 380) rfl rfl (by kernel_rfl) (by kernel_rfl) (fun i v _ => match i with | 0 => v = .agg #[.string s, .int .i64 (bg : Int), .int .i64 sy, .bool any] | 1 => v = .int .i64 (E : Int) | 2 => v = .pointer (some ⟨K, 1, none⟩) | 3 => v = .int .i64 (bg : Int) | 4 => v = .int .i64 (z : Int) | 5 => v = .int .i64 ((bg : Int) + (z : Int)) | 6 => v = .bool true | _ => True)
      (fun w' => Below w6.heap.size w6 w') (fun w' w2 => Below w6.heap.size w' w2) (fun w' => Below.refl _ _) (fun _ _ _ _ _ h => h) (Below.refl _ _).drew ?_ ?_
    · simp only [AllAt]
      refine ⟨?_, ?_, ?_, ?_, ?_, ?_, ?_, trivial⟩
      · refine StepAt.plain rfl ?_
        intro f w' hG hfr hp Kx hK
        have g8 : f 8 = .pointer (some ⟨K, 0, none⟩) := hfr 8 (by kernel_rfl)
        clear hfr hp
        obtain ⟨q0, q1, q2, q3, q4, q5, q6, q7, q8⟩ := HX6.out.new hG
        clear q4 q5 q6 q7 q8
        go_simp
        exact hK _ _ rfl hG (Below.refl _ _)
      · refine StepAt.plain rfl ?_
        intro f w' hG hfr hp Kx hK
        have g264 : f 264 = .agg #[.string s, .int .i64 (bg : Int), .int .i64 sy, .bool any] := hp 0 _ 264 rfl rfl (by kernel_rfl)
        clear hfr hp
        go_simp
        refine (HEND.out w').mono ?_
        rintro e w2 ⟨rfl, hb⟩
        exact hK _ _ rfl (Below.trans hG (Below.mono hb hG.size)) (Below.mono hb hG.size)
      · refine StepAt.plain rfl ?_
        intro f w' hG hfr hp Kx hK
        have g8 : f 8 = .pointer (some ⟨K, 0, none⟩) := hfr 8 (by kernel_rfl)
        clear hfr hp
        go_simp
        exact hK _ _ rfl hG (Below.refl _ _)
      · refine StepAt.plain rfl ?_
        intro f w' hG hfr hp Kx hK
        have g266 : f 266 = .pointer (some ⟨K, 1, none⟩) := hp 2 _ 266 rfl rfl (by kernel_rfl)
        clear hfr hp
        have q := (HX6.out.new hG).x1
        try simp only at q
        go_simp
        exact hK _ _ rfl hG (Below.refl _ _)
      · refine StepAt.plain rfl ?_
        intro f w' hG hfr hp Kx hK
        have g0 : f 0 = .int .i64 (z : Int) := hfr 0 (by kernel_rfl)
        clear hfr hp
        go_simp
        exact hK _ _ rfl hG (Below.refl _ _)
      · refine StepAt.plain rfl ?_
        intro f w' hG hfr hp Kx hK
        have g267 : f 267 = .int .i64 (bg : Int) := hp 3 _ 267 rfl rfl (by kernel_rfl)
        have g268 : f 268 = .int .i64 (z : Int) := hp 4 _ 268 rfl rfl (by kernel_rfl)
        clear hfr hp
        have hw : IntKind.i64.wrap ((bg : Int) + (z : Int)) = (bg : Int) + (z : Int) := IntWalk.i64_in _ (by omega)
        go_simp
        exact hK _ _ rfl hG (Below.refl _ _)
      · refine StepAt.plain rfl ?_
        intro f w' hG hfr hp Kx hK
        have g265 : f 265 = .int .i64 (E : Int) := hp 1 _ 265 rfl rfl (by kernel_rfl)
        have g269 : f 269 = .int .i64 ((bg : Int) + (z : Int)) := hp 5 _ 269 rfl rfl (by kernel_rfl)
        clear hfr hp
        go_simp
        exact hK _ _ (by first | rfl | exact congrArg Value.bool (decide_eq_true (by omega))) hG (Below.refl _ _)
    · intro f2 w' hG hfr hR
      have y0 : f2 0 = .int .i64 (z : Int) := hfr 0 (by kernel_rfl)
      have y5 : f2 5 = .pointer (some ⟨d, 0, none⟩) := hfr 5 (by kernel_rfl)
      have y6 : f2 6 = .pointer (some ⟨b, 0, none⟩) := hfr 6 (by kernel_rfl)
      have y8 : f2 8 = .pointer (some ⟨K, 0, none⟩) := hfr 8 (by kernel_rfl)
      have y10 : f2 10 = .pointer (some ⟨K2, 0, none⟩) := hfr 10 (by kernel_rfl)
      have y19 : f2 19 = .int .i64 ((z * (i0 + 1) : Nat) : Int) := hfr 19 (by kernel_rfl)
      have y20 : f2 20 = .int .i64 0 := hfr 20 (by kernel_rfl)
      have y21 : f2 21 = .int .i64 (tn : Int) := hfr 21 (by kernel_rfl)
      have y1 : f2 1 = f 1 := hfr 1 (by kernel_rfl)
      have y51 : f2 51 = f 51 := hfr 51 (by kernel_rfl)
      have y52 : f2 52 = f 52 := hfr 52 (by kernel_rfl)
      have y53 : f2 53 = f 53 := hfr 53 (by kernel_rfl)
      have y270 : f2 270 = .bool true := hR 6 _ 270 rfl rfl
      have HG := Lib.hid hG
      rw [fr_lit380 f2, y0, y1, y5, y6, y8, y10, y19, y20, y21, y51, y52, y53, y270]
      clear hR hG hfr y0 y1 y5 y6 y8 y10 y19 y20 y21 y51 y52 y53 y270
      have hb7 := HG.out
      have HX7 := Lib.hid (HX6.out.new hb7)
      have HP7 := Lib.hid (HP6.out.new (Chg.of_below hb7))
      clear hb7 hbz
      obtain ⟨x0, x1, x2, x3, o0', o1', o2', o3', zz⟩ := HX7.out
      simp only at o0' o1' o2' o3'
      have z0 := zz 0
      have z1 := zz 1
      have z2 := zz 2
      clear zz
      have e4 : z ≤ s.size := by rw [HSS.out]; omega
      have e6 : (z : Int) ≤ (s.size : Int) := by omega
      obtain ⟨t, ht⟩ : ∃ t : ByteArray, t = ⟨(B.drop z).toArray⟩ := ⟨_, rfl⟩
      have hsl : s.extract z s.size = t := by
        rw [ht, HS.out]
        have := cut_ext B z B.length (Nat.le_of_lt hBz)
        have e : (⟨B.toArray⟩ : ByteArray).size = B.length := by rw [← HS.out]; exact HSS.out
        rw [e, this, List.take_of_length_le (by rw [List.length_drop]; exact Nat.le_refl _)]
      obtain ⟨nb, hnb⟩ : ∃ nb, nb = z * (i0 + 1) := ⟨_, rfl⟩
      have hbn : (bg : Int) + (z : Int) = (nb : Int) := by have h1 : z * (i0 + 1) = z * i0 + z := Nat.mul_succ z i0; have h2 := HBG.out; omega
      rw [← hnb]
      have HT9 := Lib.hid ht
      have HNB := Lib.hid hnb
      clear ht hnb hBz
      go_wp2_with fail
      refine HJ.out _ _ ⟨_, lit_fr380 _ rfl, f0.symm, rfl, f5.symm, f8.symm, f10.symm, rfl, rfl, rfl, ?rel⟩
      case rel =>
        have hq : ∀ p ∈ [(K2, oC ⟨4, xa, xn, xs⟩)], p.1 ≠ K := fun p hp => by rw [List.mem_singleton] at hp; subst hp; exact Ne.symm HP4.out.2
        have h1 := ((HP7.out.set hq 0 (.string t)).set hq 1 (.int .i64 (nb : Int))).set hq 2 (.int .i64 (max sy (nb : Int)))
        refine ⟨b, i0 + 1, B.drop z, max sy (nb : Int), any, rfl, ?_, HP4.out.2⟩
        rw [HT9.out, HNB.out] at h1 ⊢
        exact PlayX.more (n' := 2 * k + 2) h1 (by omega)
  · have hBz : B.length ≤ z := by rw [← HSS.out]; omega
    have hc := playx_drop_few HP4.out.1 hBz
    have HC := Lib.hid hc
    clear hc
    go_wp2_with fail
    refine HC.out.mono ?_
    rintro e w5 ⟨rfl, hp5⟩
    have hl := play_list_few hp5.play (by omega) hBz
    have HL := Lib.hid hl
    have HP5 := Lib.hid hp5
    have HX5 : Hid (XCells w5 K K2 s bg sy any ⟨4, xa, xn, xs⟩) := Lib.hid (xcells_of hp5 HS.out (by first | rfl | exact HBG.out))
    clear hp5 hl x0 x1 x2 x3 o0' o1' o2' o3'
    go_wp2_with fail
    refine HL.out.mono ?_
    rintro e w6 ⟨v, ts, rfl, hsv, hts, hb6⟩
    obtain ⟨la, lc, hlv, -⟩ := hsv
    obtain ⟨tn, htn⟩ : ∃ n, n = ts.length := ⟨_, rfl⟩
    rw [← htn] at hlv hts
    subst hlv
    clear htn
    have hts2 : ¬ (1 < (tn : Int)) := by omega
    have hts3 : decide (1 < (tn : Int)) = false := decide_eq_false hts2
    have HX6 := Lib.hid (HX5.out.new hb6)
    have HP6 := Lib.hid (HP5.out.new (Chg.of_below hb6))
    clear hb6
    have hbz : ¬ ((bg : Int) + (z : Int) < (E : Int)) := by have := HE.out; omega
    go_upto_region 48 with fail
    refine region_inv' (n := 380) rfl rfl (by kernel_rfl) (by kernel_rfl) (fun i v _ => match i with | 0 => v = .agg #[.string s, .int .i64 (bg : Int), .int .i64 sy, .bool any] | 1 => v = .int .i64 (E : Int) | 2 => v = .pointer (some ⟨K, 1, none⟩) | 3 => v = .int .i64 (bg : Int) | 4 => v = .int .i64 (z : Int) | 5 => v = .int .i64 ((bg : Int) + (z : Int)) | 6 => v = .bool false | _ => True)
      (fun w' => Below w6.heap.size w6 w') (fun w' w2 => Below w6.heap.size w' w2) (fun w' => Below.refl _ _) (fun _ _ _ _ _ h => h) (Below.refl _ _).drew ?_ ?_
    · simp only [AllAt]
      refine ⟨?_, ?_, ?_, ?_, ?_, ?_, ?_, trivial⟩
      · refine StepAt.plain rfl ?_
        intro f w' hG hfr hp Kx hK
        have g8 : f 8 = .pointer (some ⟨K, 0, none⟩) := hfr 8 (by kernel_rfl)
        clear hfr hp
        obtain ⟨q0, q1, q2, q3, q4, q5, q6, q7, q8⟩ := HX6.out.new hG
        clear q4 q5 q6 q7 q8
        go_simp
        exact hK _ _ rfl hG (Below.refl _ _)
      · refine StepAt.plain rfl ?_
        intro f w' hG hfr hp Kx hK
        have g264 : f 264 = .agg #[.string s, .int .i64 (bg : Int), .int .i64 sy, .bool any] := hp 0 _ 264 rfl rfl (by kernel_rfl)
        clear hfr hp
        go_simp
        refine (HEND.out w').mono ?_
        rintro e w2 ⟨rfl, hb⟩
        exact hK _ _ rfl (Below.trans hG (Below.mono hb hG.size)) (Below.mono hb hG.size)
      · refine StepAt.plain rfl ?_
        intro f w' hG hfr hp Kx hK
        have g8 : f 8 = .pointer (some ⟨K, 0, none⟩) := hfr 8 (by kernel_rfl)
        clear hfr hp
        go_simp
        exact hK _ _ rfl hG (Below.refl _ _)
      · refine StepAt.plain rfl ?_
        intro f w' hG hfr hp Kx hK
        have g266 : f 266 = .pointer (some ⟨K, 1, none⟩) := hp 2 _ 266 rfl rfl (by kernel_rfl)
        clear hfr hp
        have q := (HX6.out.new hG).x1
        try simp only at q
        go_simp
        exact hK _ _ rfl hG (Below.refl _ _)
      · refine StepAt.plain rfl ?_
        intro f w' hG hfr hp Kx hK
        have g0 : f 0 = .int .i64 (z : Int) := hfr 0 (by kernel_rfl)
        clear hfr hp
        go_simp
        exact hK _ _ rfl hG (Below.refl _ _)
      · refine StepAt.plain rfl ?_
        intro f w' hG hfr hp Kx hK
        have g267 : f 267 = .int .i64 (bg : Int) := hp 3 _ 267 rfl rfl (by kernel_rfl)
        have g268 : f 268 = .int .i64 (z : Int) := hp 4 _ 268 rfl rfl (by kernel_rfl)
        clear hfr hp
        have hw : IntKind.i64.wrap ((bg : Int) + (z : Int)) = (bg : Int) + (z : Int) := IntWalk.i64_in _ (by omega)
        go_simp
        exact hK _ _ rfl hG (Below.refl _ _)
      · refine StepAt.plain rfl ?_
        intro f w' hG hfr hp Kx hK
        have g265 : f 265 = .int .i64 (E : Int) := hp 1 _ 265 rfl rfl (by kernel_rfl)
        have g269 : f 269 = .int .i64 ((bg : Int) + (z : Int)) := hp 5 _ 269 rfl rfl (by kernel_rfl)
        clear hfr hp
        go_simp
        exact hK _ _ (by first | rfl | exact congrArg Value.bool (decide_eq_false (by omega))) hG (Below.refl _ _)
    · intro f2 w' hG hfr hR
      have y0 : f2 0 = .int .i64 (z : Int) := hfr 0 (by kernel_rfl)
      have y5 : f2 5 = .pointer (some ⟨d, 0, none⟩) := hfr 5 (by kernel_rfl)
      have y6 : f2 6 = .pointer (some ⟨b, 0, none⟩) := hfr 6 (by kernel_rfl)
      have y8 : f2 8 = .pointer (some ⟨K, 0, none⟩) := hfr 8 (by kernel_rfl)
      have y10 : f2 10 = .pointer (some ⟨K2, 0, none⟩) := hfr 10 (by kernel_rfl)
      have y19 : f2 19 = .int .i64 0 := hfr 19 (by kernel_rfl)
      have y20 : f2 20 = .int .i64 9 := hfr 20 (by kernel_rfl)
      have y21 : f2 21 = .int .i64 (tn : Int) := hfr 21 (by kernel_rfl)
      have y1 : f2 1 = f 1 := hfr 1 (by kernel_rfl)
      have y51 : f2 51 = f 51 := hfr 51 (by kernel_rfl)
      have y52 : f2 52 = f 52 := hfr 52 (by kernel_rfl)
      have y53 : f2 53 = f 53 := hfr 53 (by kernel_rfl)
      have y270 : f2 270 = .bool false := hR 6 _ 270 rfl rfl
      have HG := Lib.hid hG
      rw [fr_lit380 f2, y0, y1, y5, y6, y8, y10, y19, y20, y21, y51, y52, y53, y270]
      clear hR hG hfr y0 y1 y5 y6 y8 y10 y19 y20 y21 y51 y52 y53 y270
      have hb7 := HG.out
      have HX7 := Lib.hid (HX6.out.new hb7)
      have HP7 := Lib.hid (HP6.out.new (Chg.of_below hb7))
      clear hb7 hbz
      clear hBz
      go_wp2_with fail
      refine HJ.out _ _ ⟨_, lit_fr380 _ rfl, f0.symm, rfl, f5.symm, f8.symm, f10.symm, rfl, rfl, rfl, ?rel⟩
      case rel => exact ⟨b, i0, B, sy, any, rfl, HP7.out.more (by omega), HP4.out.2⟩
end Go.Proofs.YtgephceihkkokaaGreatDoor

/-! ### SPc5 -/
namespace Go.Proofs.YtgephceihkkokaaGreatDoor
open Go.RowKit Go.Deep
set_option linter.unusedVariables false
set_option linter.unusedSimpArgs false
attribute [local go_sem] fr_opt
set_option maxHeartbeats 16000000 in
set_option maxRecDepth 100000 in
theorem sw_5 (f : Nat → Value) (w1 w4 : World) (b d k z i0 : Nat) (B : List UInt8) (sy : Int) (any : Bool) (K K2 : Nat) (s : ByteArray) (bg E R : Nat) (x : OpR) (h : SwIn f w1 w4 b d k z i0 B sy any K K2 s bg E R x) (J : Act → World → Prop) (Q : Exit → Act → World → Prop) (hJ : ∀ a w, SwI f w1 d (2 * k + 2) z K K2 x a w → J a w) (k5 : x.k = 5) :
    Code.wp Tryz.prog swC (Exit.then J Q) (Fr 380 f) w4 := by
  obtain ⟨f0, f5, f6, f8, f10, f11, f68, hpx, hk, hs, hss, hbg, hE, hR, hz1, hz2, hE9, hxs⟩ := id h
  have HEND := Lib.hid (fun W => h.end_ W)
  have hRz : R < z := by rw [hR]; exact Nat.mod_lt _ (by omega)
  have hbg9 : bg ≤ 99000000 := by omega
  have hss9 : s.size ≤ 99000000 := by omega
  have hbg9 : bg ≤ 99000000 := by omega
  have hss9 : s.size ≤ 99000000 := by omega
  have hz7 : ¬ (z : Int) = 0 := by omega
  have hz8 : ((z : Int) == 0) = false := by simpa using hz7
  have HP4 := Lib.hid hpx
  have HX4 : Hid (XCells w4 K K2 s bg sy any x) := Lib.hid (xcells_of hpx.1 hs hbg)
  have HS := Lib.hid hs
  have HSS := Lib.hid hss
  have HBG := Lib.hid hbg
  have HE := Lib.hid hE
  have HR := Lib.hid hR
  clear h hpx hs hss hbg hE hR
  obtain ⟨xk, xa, xn, xs⟩ := x
  simp only at hxs f68
  obtain ⟨x0, x1, x2, x3, o0', o1', o2', o3', zz⟩ := HX4.out
  simp only at o0' o1' o2' o3'
  clear zz
  have HJ := Lib.hid hJ
  clear hJ
  rw [fr_lit380 f, f0, f5, f6, f8, f10, f11, f68]
  simp only at k5
  conv => arg 2; whnf
  subst k5
  have HC := Lib.hid (playx_open HP4.out.1 (by omega))
  go_wp2_with fail
  refine HC.out.mono ?_
  rintro e w5 ⟨b5, rfl, hp5⟩
  have HP5 := Lib.hid hp5
  have HX5 : Hid (XCells w5 K K2 s bg sy any ⟨5, xa, xn, xs⟩) := Lib.hid (xcells_of hp5 HS.out (by first | rfl | exact HBG.out))
  clear hp5 x0 x1 x2 x3 o0' o1' o2' o3'
  obtain ⟨x0, x1, x2, x3, o0', o1', o2', o3', zz⟩ := HX5.out
  simp only at o0' o1' o2' o3'
  have z2 := zz 2
  clear zz
  go_wp2_with fail
  refine HJ.out _ _ ⟨_, lit_fr380 _ rfl, f0.symm, rfl, f5.symm, f8.symm, f10.symm, rfl, rfl, rfl, ?rel⟩
  case rel =>
    have h1 := HP5.out.set (fun p hp => by rw [List.mem_singleton] at hp; subst hp; exact Ne.symm HP4.out.2) 2 (.int .i64 (bg : Int))
    refine ⟨b5, i0, B, ((z * i0 : Nat) : Int), any, rfl, ?_, HP4.out.2⟩
    rw [HBG.out] at h1 ⊢
    exact PlayX.more (n' := 2 * k + 2) h1 (by omega)
end Go.Proofs.YtgephceihkkokaaGreatDoor

/-! ### SPc6 -/
namespace Go.Proofs.YtgephceihkkokaaGreatDoor
open Go.RowKit Go.Deep
set_option linter.unusedVariables false
set_option linter.unusedSimpArgs false
attribute [local go_sem] fr_opt
set_option maxHeartbeats 16000000 in
set_option maxRecDepth 100000 in
theorem sw_6 (f : Nat → Value) (w1 w4 : World) (b d k z i0 : Nat) (B : List UInt8) (sy : Int) (any : Bool) (K K2 : Nat) (s : ByteArray) (bg E R : Nat) (x : OpR) (h : SwIn f w1 w4 b d k z i0 B sy any K K2 s bg E R x) (J : Act → World → Prop) (Q : Exit → Act → World → Prop) (hJ : ∀ a w, SwI f w1 d (2 * k + 2) z K K2 x a w → J a w) (q0 : (x.k == 0) = false) (q1 : (x.k == 1) = false) (q2 : (x.k == 2) = false) (q3 : (x.k == 3) = false) (q4 : (x.k == 4) = false) (q5 : (x.k == 5) = false) :
    Code.wp Tryz.prog swC (Exit.then J Q) (Fr 380 f) w4 := by
  obtain ⟨f0, f5, f6, f8, f10, f11, f68, hpx, hk, hs, hss, hbg, hE, hR, hz1, hz2, hE9, hxs⟩ := id h
  have HEND := Lib.hid (fun W => h.end_ W)
  have hRz : R < z := by rw [hR]; exact Nat.mod_lt _ (by omega)
  have hbg9 : bg ≤ 99000000 := by omega
  have hss9 : s.size ≤ 99000000 := by omega
  have hbg9 : bg ≤ 99000000 := by omega
  have hss9 : s.size ≤ 99000000 := by omega
  have hz7 : ¬ (z : Int) = 0 := by omega
  have hz8 : ((z : Int) == 0) = false := by simpa using hz7
  have HP4 := Lib.hid hpx
  have HX4 : Hid (XCells w4 K K2 s bg sy any x) := Lib.hid (xcells_of hpx.1 hs hbg)
  have HS := Lib.hid hs
  have HSS := Lib.hid hss
  have HBG := Lib.hid hbg
  have HE := Lib.hid hE
  have HR := Lib.hid hR
  clear h hpx hs hss hbg hE hR
  obtain ⟨xk, xa, xn, xs⟩ := x
  simp only at hxs f68
  obtain ⟨x0, x1, x2, x3, o0', o1', o2', o3', zz⟩ := HX4.out
  simp only at o0' o1' o2' o3'
  clear zz
  have HJ := Lib.hid hJ
  clear hJ
  rw [fr_lit380 f, f0, f5, f6, f8, f10, f11, f68]
  simp only at q0 q1 q2 q3 q4 q5
  conv => arg 2; whnf
  go_wp2_with fail
  refine HJ.out _ _ ⟨_, lit_fr380 _ rfl, f0.symm, rfl, f5.symm, f8.symm, f10.symm, rfl, rfl, rfl, ?rel⟩
  case rel => exact ⟨b, i0, B, sy, any, rfl, HP4.out.more (by omega)⟩
end Go.Proofs.YtgephceihkkokaaGreatDoor
