/-
  SPlayP, SPlayR, RefSame, SPlayF, SPlayS, SPlayX, InvG, SOpenP, in one text.
-/
import Derived.Test.YtgephceihkkokaaGreatDoorSRowsP
import Derived.Test.YtgephceihkkokaaGreatDoorWords
import Derived.Test.YtgephceihkkokaaGreatDoorInv
import Derived.Deep.Grids
import Derived.SliceStrings
import Derived.ChangeSame
/-! ### SPlayP -/
namespace Go.Proofs.YtgephceihkkokaaGreatDoor
open Go.RowKit Go.Deep
set_option linter.unusedVariables false
set_option linter.unusedSimpArgs false

def lH : ByteArray := ⟨#[108, 111, 103]⟩
/-- The row that is played, at b, on the disk at d: its bytes B from z * i0 on; `sy` synced; any: was something appended? -/
def Play (w0 w : World) (b d n z i0 : Nat) (B : List UInt8) (sy : Int) (any : Bool) : Prop :=
  ∃ g st m j, RowG w0 w b g st m ∧ g.d = d ∧ m.head = lH ∧ m.synced = sy ∧ sy ≤ ((z * i0 + B.length : Nat) : Int) ∧ RowK n m st z i0 j B ∧ (any = true ↔ i0 < j)
theorem play_of {w0 w w' : World} {b d n z i0 j : Nat} {g : Gh} {st : St} {H : ByteArray} {B : List UInt8} {sy : Int} {any : Bool} (hk : KTo w0 w b g st H n z i0 j B sy w') (hH : H = lH) (hd : g.d = d) (hsy : sy ≤ ((z * i0 + B.length : Nat) : Int)) (ha : any = true ↔ i0 < j) : Play w0 w' b d n z i0 B sy any := by
  obtain ⟨g', m', st', h1, h2, _, h4, h5, h6⟩ := hk
  exact ⟨g', st', m', j, h1, h2.d.trans hd, h4.trans hH, h5, hsy, h6, ha⟩
theorem Play.more {w0 w : World} {b d n n' z i0 : Nat} {B : List UInt8} {sy : Int} {any : Bool} (h : Play w0 w b d n z i0 B sy any) (hn : n ≤ n') : Play w0 w b d n' z i0 B sy any := by
  obtain ⟨g, st, m, j, h1, h2, h3, h4, h5, h6, h7⟩ := h
  exact ⟨g, st, m, j, h1, h2, h3, h4, h5, h6.more hn, h7⟩
theorem Play.new {w0 w w' : World} {b d n z i0 : Nat} {B : List UInt8} {sy : Int} {any : Bool} (h : Play w0 w b d n z i0 B sy any) (hc : Chg (fun _ => False) w w') : Play w0 w' b d n z i0 B sy any := by
  obtain ⟨g, st, m, j, h1, h2, h3, h4, h5, h6, h7⟩ := h
  exact ⟨g, st, m, j, h1.new hc, h2, h3, h4, h5, h6, h7⟩
theorem Play.drewN {w0 w : World} {b d n z i0 : Nat} {B : List UInt8} {sy : Int} {any : Bool} (h : Play w0 w b d n z i0 B sy any) (q : Nat) : Play w0 (w.drewN q) b d n z i0 B sy any := h.new ((Chg.refl _ _).drewN q)
theorem Play.chg {w0 w : World} {b d n z i0 : Nat} {B : List UInt8} {sy : Int} {any : Bool} (h : Play w0 w b d n z i0 B sy any) : Chg (fun _ => False) w0 w := by
  obtain ⟨g, st, m, j, h1, _⟩ := h
  exact h1.chg

def PlayTo (w0 : World) (v : Value) (b d n z i0 : Nat) (B : List UInt8) (sy : Int) (any : Bool) (e : Ending) (w' : World) : Prop := e = .returned v ∧ Play w0 w' b d n z i0 B sy any

theorem play_append {w0 w : World} {b d n z i0 : Nat} {B : List UInt8} {sy : Int} {any : Bool} (h : Play w0 w b d n z i0 B sy any) (hn : n ≤ 200) (s : ByteArray) (hs0 : s.size ≠ 0) (hs : s.size ≤ z - (z * i0 + B.length) % z) :
    Calls Tryz.prog 12 #[.pointer (some ⟨b, 0, none⟩), .string s] w (PlayTo w0 (.tuple #[.int .i64 ((z * i0 + B.length : Nat) : Int), .int .i64 0]) b d (n + 2) z i0 (B ++ s.data.toList) sy true) := by
  obtain ⟨g, st, m, j, h1, h2, h3, h4, h5, h6, h7⟩ := h
  have hr := h6.row.room_eq
  refine (k_append h1 h6 hn s hs0 (by rw [hr.1]; omega)).mono ?_
  rintro e w' ⟨rfl, hk⟩
  refine ⟨rfl, play_of (by rw [h4] at hk; exact hk) h3 h2 (by rw [List.length_append]; omega) ⟨fun _ => ?_, fun _ => rfl⟩⟩
  have e1 := h6.row.e1
  have eb := h6.row.eb
  have ij := h6.row.ij
  split
  · omega
  · rename_i hne
    rcases Nat.lt_or_ge i0 j with hlt | hge
    · exact hlt
    · have : j = i0 := by omega
      subst this
      omega
theorem play_append_bad {w0 w : World} {b d n z i0 : Nat} {B : List UInt8} {sy : Int} {any : Bool} (h : Play w0 w b d n z i0 B sy any) (s : ByteArray) (hs : s.size = 0 ∨ z - (z * i0 + B.length) % z < s.size) (hsl : s.size ≤ maxLen) :
    Calls Tryz.prog 12 #[.pointer (some ⟨b, 0, none⟩), .string s] w (PlayTo w0 (.tuple #[.int .i64 0, .int .i64 1]) b d n z i0 B sy any) := by
  obtain ⟨g, st, m, j, h1, h2, h3, h4, h5, h6, h7⟩ := h
  have hr := h6.row.room_eq
  refine (k_append_bad2 h1 h6 s (hs.imp id fun hx => by rw [hr.1]; omega) hsl).mono ?_
  rintro e w' ⟨rfl, hk⟩
  exact ⟨rfl, play_of (by rw [h4] at hk; exact hk) h3 h2 h5 h7⟩
theorem play_sync {w0 w : World} {b d n z i0 : Nat} {B : List UInt8} {sy : Int} {any : Bool} (h : Play w0 w b d n z i0 B sy any) (hn : n ≤ 1048576) :
    Calls Tryz.prog 14 #[.pointer (some ⟨b, 0, none⟩)] w (PlayTo w0 (.int .i64 0) b d n z i0 B ((z * i0 + B.length : Nat) : Int) any) := by
  obtain ⟨g, st, m, j, h1, h2, h3, h4, h5, h6, h7⟩ := h
  refine (k_sync h1 h6 hn).mono ?_
  rintro e w' ⟨rfl, hk⟩
  exact ⟨rfl, play_of hk h3 h2 (Int.le_refl _) h7⟩
theorem play_cut {w0 w : World} {b d n z i0 : Nat} {B : List UInt8} {sy : Int} {any : Bool} (h : Play w0 w b d n z i0 B sy any) (hn : n ≤ 1048576) (a : Nat) (ha0 : z * i0 ≤ a) (ha1 : a ≤ z * i0 + B.length) :
    Calls Tryz.prog 15 #[.pointer (some ⟨b, 0, none⟩), .int .i64 (a : Int)] w (PlayTo w0 (.int .i64 0) b d n z i0 (B.take (a - z * i0)) (min sy (a : Int)) any) := by
  obtain ⟨g, st, m, j, h1, h2, h3, h4, h5, h6, h7⟩ := h
  refine (k_cut h1 h6 hn a ha0 ha1 (by rw [h4, h6.row.end_]; exact h5)).mono ?_
  rintro e w' ⟨rfl, j', hj1, hj2, hk⟩
  have ij := h6.row.ij
  refine ⟨rfl, play_of (by rw [h4] at hk; exact hk) h3 h2 (by rw [List.length_take]; omega) (h7.trans ⟨hj1, fun hx => ?_⟩)⟩
  rcases Nat.lt_or_ge i0 j with hlt | hge
  · exact hlt
  · have := hj2 (by omega); omega
theorem play_cut_bad {w0 w : World} {b d n z i0 : Nat} {B : List UInt8} {sy : Int} {any : Bool} (h : Play w0 w b d n z i0 B sy any) (a : Int) (ha : a < ((z * i0 : Nat) : Int) ∨ ((z * i0 + B.length : Nat) : Int) < a) :
    Calls Tryz.prog 15 #[.pointer (some ⟨b, 0, none⟩), .int .i64 a] w (PlayTo w0 (.int .i64 2) b d n z i0 B sy any) := by
  obtain ⟨g, st, m, j, h1, h2, h3, h4, h5, h6, h7⟩ := h
  refine (k_cut_bad h1 h6 a ha).mono ?_
  rintro e w' ⟨rfl, hk⟩
  exact ⟨rfl, play_of (by rw [h4] at hk; exact hk) h3 h2 h5 h7⟩
/-- Two segments just if something lies beyond the first one. -/
theorem two_segs {n : Nat} {m : RowM} {st : St} {z i0 j : Nat} {B : List UInt8} (h : RowK n m st z i0 j B) : i0 + 1 < j ↔ z < B.length := by
  have hz := h.row.z1
  have e1 := h.row.e1
  have hs : z * (i0 + 1) = z * i0 + z := Nat.mul_succ z i0
  constructor
  · intro hj
    have ht := h.tight hj
    have : z * (i0 + 1) ≤ z * (j - 1) := Nat.mul_le_mul_left z (by omega)
    omega
  · intro hB
    rcases Nat.lt_or_ge (i0 + 1) j with h1 | h1
    · exact h1
    · have : z * j ≤ z * (i0 + 1) := Nat.mul_le_mul_left z h1
      omega
theorem play_drop {w0 w : World} {b d n z i0 : Nat} {B : List UInt8} {sy : Int} {any : Bool} (h : Play w0 w b d n z i0 B sy any) (hn : n ≤ 1048576) (hB : z < B.length) :
    Calls Tryz.prog 16 #[.pointer (some ⟨b, 0, none⟩)] w (PlayTo w0 (.tuple #[.int .i64 ((z * (i0 + 1) : Nat) : Int), .int .i64 0]) b d n z (i0 + 1) (B.drop z) (max sy ((z * (i0 + 1) : Nat) : Int)) any) := by
  obtain ⟨g, st, m, j, h1, h2, h3, h4, h5, h6, h7⟩ := h
  have hij := (two_segs h6).2 hB
  have hs : z * (i0 + 1) = z * i0 + z := Nat.mul_succ z i0
  refine (k_drop h1 h6 hn hij).mono ?_
  rintro e w' ⟨rfl, hk⟩
  exact ⟨rfl, play_of (by rw [h4] at hk; exact hk) h3 h2 (by rw [List.length_drop]; omega) (h7.trans ⟨fun _ => hij, fun _ => by omega⟩)⟩
theorem play_drop_few {w0 w : World} {b d n z i0 : Nat} {B : List UInt8} {sy : Int} {any : Bool} (h : Play w0 w b d n z i0 B sy any) (hB : B.length ≤ z) :
    Calls Tryz.prog 16 #[.pointer (some ⟨b, 0, none⟩)] w (PlayTo w0 (.tuple #[.int .i64 0, .int .i64 9]) b d n z i0 B sy any) := by
  obtain ⟨g, st, m, j, h1, h2, h3, h4, h5, h6, h7⟩ := h
  have hij : j ≤ i0 + 1 := by
    rcases Nat.lt_or_ge (i0 + 1) j with hlt | hge
    · have := (two_segs h6).1 hlt; omega
    · exact hge
  refine (k_drop_few h1 h6 hij).mono ?_
  rintro e w' ⟨rfl, hk⟩
  exact ⟨rfl, play_of (by rw [h4] at hk; exact hk) h3 h2 h5 h7⟩
def PlayO (w0 : World) (d n z i0 : Nat) (B : List UInt8) (any : Bool) (e : Ending) (w' : World) : Prop := ∃ b, e = .returned (.tuple #[.pointer (some ⟨b, 0, none⟩), .int .i64 0]) ∧ Play w0 w' b d n z i0 B ((z * i0 : Nat) : Int) any
theorem play_open {w0 w : World} {b d n z i0 : Nat} {B : List UInt8} {sy : Int} {any : Bool} (h : Play w0 w b d n z i0 B sy any) (hn : n ≤ 1048576) :
    Calls Tryz.prog 10 #[.pointer (some ⟨d, 0, none⟩), .string lH, .int .i64 (z : Int)] w (PlayO w0 d n z i0 B any) := by
  obtain ⟨g, st, m, j, h1, h2, h3, h4, h5, h6, h7⟩ := h
  have hc := k_open (DiskG.of h1 h2) h1.tab0 h6 hn
  rw [h3] at hc
  refine hc.mono ?_
  rintro e w' ⟨b', rfl, hb', g', m', hg', hto, hh', hs', hk'⟩
  exact ⟨b', rfl, g', st, m', j, hg', hto.d.trans h2, hh', hs', by omega, hk', h7⟩
theorem play_begin {w0 w : World} {b d n z i0 : Nat} {B : List UInt8} {sy : Int} {any : Bool} (h : Play w0 w b d n z i0 B sy any) : Calls Tryz.prog 18 #[.pointer (some ⟨b, 0, none⟩)] w fun e w' => e = .returned (.int .i64 ((z * i0 : Nat) : Int)) ∧ w = w' := by
  obtain ⟨g, st, m, j, h1, h2, h3, h4, h5, h6, h7⟩ := h
  have := rbegin_any b g.d m w h1.row
  rw [h6.row.beg] at this
  exact this
theorem play_end {w0 w : World} {b d n z i0 : Nat} {B : List UInt8} {sy : Int} {any : Bool} (h : Play w0 w b d n z i0 B sy any) : Calls Tryz.prog 19 #[.pointer (some ⟨b, 0, none⟩)] w fun e w' => e = .returned (.int .i64 ((z * i0 + B.length : Nat) : Int)) ∧ w = w' := by
  obtain ⟨g, st, m, j, h1, h2, h3, h4, h5, h6, h7⟩ := h
  have := rend_any b g.d m w h1.row
  rw [h6.row.end_] at this
  exact this
theorem play_synced {w0 w : World} {b d n z i0 : Nat} {B : List UInt8} {sy : Int} {any : Bool} (h : Play w0 w b d n z i0 B sy any) : Calls Tryz.prog 20 #[.pointer (some ⟨b, 0, none⟩)] w fun e w' => e = .returned (.int .i64 sy) ∧ w = w' := by
  obtain ⟨g, st, m, j, h1, h2, h3, h4, h5, h6, h7⟩ := h
  have := rsynced_any b g.d m w h1.row
  rw [h4] at this
  exact this
/-- Only the order is drawn. -/
def DrewTo (v : Value) (w : World) (e : Ending) (w' : World) : Prop := e = .returned v ∧ ∃ q, w' = w.drewN q
theorem play_room {w0 w : World} {b d n z i0 : Nat} {B : List UInt8} {sy : Int} {any : Bool} (h : Play w0 w b d n z i0 B sy any) : Calls Tryz.prog 21 #[.pointer (some ⟨b, 0, none⟩)] w (DrewTo (.int .i64 ((z : Int) - (((z * i0 + B.length) % z : Nat) : Int))) w) := by
  obtain ⟨g, st, m, j, h1, h2, h3, h4, h5, h6, h7⟩ := h
  have a1 := h6.row.end_
  have a2 := h6.row.next
  have a3 := h6.row.e1
  have a4 := h6.row.room
  have := rroom_any b g.d m w h1.row (by omega) (by omega) (by omega)
  have hr := h6.row.room_eq.1
  unfold roomR at hr
  rw [hr] at this
  exact this
theorem left_begin {n : Nat} {m : RowM} {st : St} {z i0 j : Nat} {B : List UInt8} (h : RowK n m st z i0 j B) : leftR m ((z * i0 : Nat) : Int) = ((min z B.length : Nat) : Int) := by
  have a1 := h.row.end_
  have a2 := h.row.beg
  have a3 := h.row.size
  have a4 := h.row.z1
  have hmod : (((z * i0 : Nat) : Int)) % (z : Int) = 0 := by rw [← Int.natCast_emod, Nat.mul_mod_right]; rfl
  unfold leftR
  rw [a1, a2, a3, hmod]
  split <;> omega
theorem play_left {w0 w : World} {b d n z i0 : Nat} {B : List UInt8} {sy : Int} {any : Bool} (h : Play w0 w b d n z i0 B sy any) : Calls Tryz.prog 22 #[.pointer (some ⟨b, 0, none⟩), .int .i64 ((z * i0 : Nat) : Int)] w (DrewTo (.int .i64 ((min z B.length : Nat) : Int)) w) := by
  obtain ⟨g, st, m, j, h1, h2, h3, h4, h5, h6, h7⟩ := h
  have a1 := h6.row.end_
  have a2 := h6.row.beg
  have a3 := h6.row.size
  have a4 := h6.row.z1
  have a5 := h6.row.z2
  have a6 := h6.row.e1
  have a7 := h6.row.room
  have := rleft_any b g.d m ((z * i0 : Nat) : Int) w h1.row (by omega) (by omega) (by omega) (by omega)
  rw [left_begin h6] at this
  exact this
end Go.Proofs.YtgephceihkkokaaGreatDoor

/-! ### SPlayR -/
namespace Go.Proofs.YtgephceihkkokaaGreatDoor
open Go.RowKit Go.Deep
set_option linter.unusedVariables false
set_option linter.unusedSimpArgs false

theorem play_read_zero {w0 w : World} {b d n z i0 : Nat} {B : List UInt8} {sy : Int} {any : Bool} (h : Play w0 w b d n z i0 B sy any) (a : Int) (h1 : ((z * i0 : Nat) : Int) ≤ a) (h2 : a ≤ ((z * i0 + B.length : Nat) : Int)) :
    Calls Tryz.prog 13 #[.pointer (some ⟨b, 0, none⟩), .int .i64 a, .int .i64 0] w fun e w' => e = .returned (.tuple #[.string ⟨#[]⟩, .int .i64 0]) ∧ w = w' := by
  obtain ⟨g, st, m, j, k1, k2, k3, k4, k5, k6, k7⟩ := h
  exact rread_none b g.d m a w k1.row (by rw [k6.row.beg]; exact h1) (by rw [k6.row.end_]; exact h2)
theorem play_read_in {w0 w : World} {b d n z i0 : Nat} {B : List UInt8} {sy : Int} {any : Bool} (h : Play w0 w b d n z i0 B sy any) (a k : Nat) (hk : 0 < k) (h1 : z * i0 ≤ a) (h2 : a + k ≤ z * i0 + B.length) (h3 : k ≤ z - a % z) :
    Calls Tryz.prog 13 #[.pointer (some ⟨b, 0, none⟩), .int .i64 a, .int .i64 k] w fun e w' => e = .returned (.tuple #[.string ⟨((B.drop (a - z * i0)).take k).toArray⟩, .int .i64 0]) ∧ Below w.heap.size w w' := by
  obtain ⟨g, st, m, j, k1, k2, k3, k4, k5, k6, k7⟩ := h
  have a1 := k6.row.end_
  have a2 := k6.row.beg
  have a3 := k6.row.size
  have a4 := k6.row.z1
  have a5 := k6.row.z2
  have a6 := k6.row.e1
  have a7 := k6.row.room
  have hdm := Nat.div_add_mod a z
  have hml := Nat.mod_lt a (show 0 < z by omega)
  obtain ⟨i, hi⟩ : ∃ i, i = a / z := ⟨_, rfl⟩
  rw [← hi] at hdm
  have hi0 : i0 ≤ i := by rw [hi]; exact (Nat.le_div_iff_mul_le (by omega)).2 (by rw [Nat.mul_comm]; exact h1)
  have hij : i < j := by rw [hi]; exact (Nat.div_lt_iff_lt_mul (by omega)).2 (by rw [Nat.mul_comm]; omega)
  have hzi : z * i0 ≤ z * i := Nat.mul_le_mul_left z hi0
  obtain ⟨f, hf, hfb⟩ := k6.ch i hi0 hij
  have hfl : f.bytes.length = min z (B.length - (z * i - z * i0)) := by rw [hfb, List.length_take, List.length_drop]
  have hu : a - z * i = a % z := by omega
  have hmod : (a : Int) % (z : Int) = ((a % z : Nat) : Int) := (Int.natCast_emod a z).symm
  have hleft : (k : Int) ≤ leftR m a := by
    unfold leftR
    rw [a1, a2, a3, hmod]
    split <;> omega
  have hc := rread_ok w0 b g st m a k (z * i) f w k1 k6.row.calm.down (by omega) (by omega) (by omega) (by omega) (by have := k6.row.head; omega) hk hleft (by rw [a3, hmod]; omega) hf (by omega) (by omega)
  have hb : ((f.bytes.drop (a - z * i)).take k) = (B.drop (a - z * i0)).take k := by
    rw [hfb, List.drop_take, List.take_take, List.drop_drop, show min k (z - (a - z * i)) = k from by omega, show z * i - z * i0 + (a - z * i) = a - z * i0 from by omega]
  rw [hb] at hc
  exact hc
theorem play_read_bad {w0 w : World} {b d n z i0 : Nat} {B : List UInt8} {sy : Int} {any : Bool} (h : Play w0 w b d n z i0 B sy any) (a k : Int) (hno : a < ((z * i0 : Nat) : Int) ∨ ((z * i0 + B.length : Nat) : Int) < a ∨ k < 0 ∨ ((z * i0 + B.length : Nat) : Int) - a < k ∨ (k ≠ 0 ∧ (z : Int) - a % (z : Int) < k)) :
    Calls Tryz.prog 13 #[.pointer (some ⟨b, 0, none⟩), .int .i64 a, .int .i64 k] w (DrewTo (.tuple #[.string ⟨#[]⟩, .int .i64 2]) w) := by
  obtain ⟨g, st, m, j, k1, k2, k3, k4, k5, k6, k7⟩ := h
  have a1 := k6.row.end_
  have a2 := k6.row.beg
  have a3 := k6.row.size
  have a4 := k6.row.z1
  have a5 := k6.row.z2
  have a6 := k6.row.e1
  have a7 := k6.row.room
  refine rread_bad b g.d m a k w k1.row (by omega) (by omega) (by omega) (by omega) (by rw [a1, a2]; omega) ?_
  unfold leftR
  rw [a1, a2, a3]
  obtain ⟨r, hr⟩ : ∃ r, r = a % (z : Int) := ⟨_, rfl⟩
  rw [← hr] at hno ⊢
  split <;> omega
/-- The names of the row's files: from place z * i0 on, j - i0 of them. -/
theorem play_list {w0 w : World} {b d n z i0 : Nat} {B : List UInt8} {sy : Int} {any : Bool} (h : Play w0 w b d n z i0 B sy any) (hn : n ≤ 1048576) :
    ∃ j, ((any = true ↔ i0 < j) ∧ i0 ≤ j ∧ z * i0 + B.length ≤ z * j ∧ (i0 + 1 < j → z * (j - 1) < z * i0 + B.length)) ∧
      ∀ W, Chg (fun _ => False) w W → Calls Tryz.prog 17 #[.pointer (some ⟨d, 0, none⟩), .string lH] W fun e w' => (∃ v, e = .returned v ∧ Strs w' W.heap.size v ((plS (z * j) z (z * i0)).map (nameB lH))) ∧ Below W.heap.size W w' := by
  obtain ⟨g, st, m, j, k1, k2, k3, k4, k5, k6, k7⟩ := h
  refine ⟨j, ⟨k7, k6.row.ij, k6.row.e1, k6.tight⟩, fun W hW => ?_⟩
  have hz := k6.row.z1
  have hroom := k6.row.room
  have hp := names_rise lH (plS (z * j) z (z * i0)) (plS_rise (by omega) _ _ (Nat.le_refl _)) (fun p hp => by
    obtain ⟨i, a, b, rfl⟩ := (plS_iff (by omega) i0 j p k6.row.ij).1 hp
    have := Nat.mul_le_mul_left z (Nat.le_of_lt b)
    omega)
  have hN : namesS lH st = (plS (z * j) z (z * i0)).map (nameB lH) := names_of lH st _ k6.row.calm.good.names hp.1 hp.2 (fun nm => by
    have := k6.row.own nm
    rw [k3] at this
    rw [this, List.mem_map]
    exact ⟨fun ⟨p, a, b⟩ => ⟨p, a, b.symm⟩, fun ⟨p, a, b⟩ => ⟨p, a, b.symm⟩⟩)
  have hc := list_strs g st lH W (k1.new hW).disk (by have := k6.row.calm.good.len; omega)
  rw [k2, hN] at hc
  refine hc.mono ?_
  rintro e w' ⟨v, rfl, hv, hb⟩
  exact ⟨⟨v, rfl, hv⟩, hb⟩
theorem Play.bounds {w0 w : World} {b d n z i0 : Nat} {B : List UInt8} {sy : Int} {any : Bool} (h : Play w0 w b d n z i0 B sy any) : 16 ≤ z ∧ z ≤ 4096 ∧ z * i0 + B.length ≤ 99000000 ∧ z * i0 + B.length ≤ 4096 * n := by
  obtain ⟨g, st, m, j, k1, k2, k3, k4, k5, k6, k7⟩ := h
  have h1 := k6.row.e1
  have h2 := k6.row.room
  exact ⟨k6.row.z1, k6.row.z2, by omega, k6.en⟩
theorem play_all {w0 w : World} {b d n z i0 : Nat} {B : List UInt8} {sy : Int} {any : Bool} (h : Play w0 w b d n z i0 B sy any) (i : Nat) (h1 : i0 ≤ i) (h2 : z * i < z * i0 + B.length ∨ (i = i0 ∧ any = true)) :
    Calls Tryz.prog 46 #[.pointer (some ⟨d, 0, none⟩), .string (nameB lH (z * i))] w fun e w' => e = .returned (.tuple #[.string ⟨((B.drop (z * i - z * i0)).take z).toArray⟩, .int .i64 0]) ∧ Below w.heap.size w w' := by
  obtain ⟨g, st, m, j, k1, k2, k3, k4, k5, k6, k7⟩ := h
  have hz := k6.row.z1
  have he := k6.row.e1
  have hij : i < j := by
    rcases h2 with hlt | ⟨rfl, ha⟩
    · exact Nat.lt_of_mul_lt_mul_left (Nat.lt_of_lt_of_le hlt he)
    · exact k7.1 ha
  obtain ⟨f, hf, hfb⟩ := k6.ch i h1 hij
  have hdn := k6.row.calm.down
  have hc := all_any g st (nameB lH (z * i)) w k1.disk (by rw [nameB_size]; unfold maxLen; show (3 : Nat) + _ ≤ _; omega)
  rw [k2] at hc
  rw [k3] at hf
  refine hc.mono ?_
  rintro e w' ⟨rfl, hb⟩
  have ha : allE st (nameB lH (z * i)) = (f.bytes, 0) := by
    unfold allE
    rw [hdn, if_neg (by decide), hf]
  rw [ha, hfb]
  exact ⟨rfl, hb⟩
end Go.Proofs.YtgephceihkkokaaGreatDoor

/-! ### RefSame -/
namespace Go.Proofs.YtgephceihkkokaaGreatDoor
open Go.RowKit Go.Deep

set_option maxHeartbeats 400000 in
theorem refSame_any (v u : Value) (ts us : List ByteArray) (w : World) (hv : Strs w 0 v ts) (hu : Strs w 0 u us) (hl : ts.length ≤ 1000000) : Calls Tryz.prog 47 #[v, u] w fun e w' => e = .returned (.bool (decide (ts = us))) ∧ ∃ k, w' = w.drewN k := by
  have HV := Lib.hid hv
  have HU := Lib.hid hu
  obtain ⟨a, cap, rfl⟩ := hv.form
  obtain ⟨c, cap2, rfl⟩ := hu.form
  clear hv hu
  by_cases hlen : ts.length = us.length
  · have hb : ((ts.length : Int) == us.length) = true := by simp [hlen]
    have hnb : ((ts.length : Int) != us.length) = false := by simp [hlen]
    have HLEN := Lib.hid hlen
    clear hlen
    go_enter Tryz.func47, Tryz.ntmps47
    go_wp2_with fail
    go_loopw [5] (fun i wr => ∃ k : Nat, k ≤ ts.length ∧ i = .int .i64 k ∧ ts.take k = us.take k ∧ ∃ d, wr = w.drewN d) (fun i _ => ts.length - (intOf i).toNat)
    case atStart => exact ⟨0, Nat.zero_le _, rfl, rfl, 0, rfl⟩
    case round =>
      obtain ⟨k, hk, rfl, heq, d, rfl⟩ := hrel
      have HEQ := Lib.hid heq
      clear heq
      by_cases hlt : k < ts.length
      · obtain ⟨b, o, rfl, hck⟩ := HV.out.cellAt hlt
        obtain ⟨b2, o2, rfl, hck2⟩ := HU.out.cellAt (i := k) (by rw [← HLEN.out]; exact hlt)
        have hlt2 : k < us.length := by rw [← HLEN.out]; exact hlt
        obtain ⟨t, ht⟩ : ∃ t, t = ts.getD k ⟨#[]⟩ := ⟨_, rfl⟩
        obtain ⟨u, hu⟩ : ∃ t, t = us.getD k ⟨#[]⟩ := ⟨_, rfl⟩
        rw [← ht] at hck
        rw [← hu] at hck2
        have HT := Lib.hid ht
        have HUU := Lib.hid hu
        clear ht hu
        by_cases htu : t = u
        · subst htu
          go_wp2_with fail
          go_quiet (fail)
          go_wp2_with fail
          refine ⟨⟨k + 1, by omega, by go_num, ?_, _, rfl⟩, by simp [intOf]; omega⟩
          rw [take_snoc' ts hlt, take_snoc' us hlt2, HEQ.out, ← HT.out, ← HUU.out]
        · have hne : t.toList ≠ u.toList := fun h => htu (by rw [← ba_toList t, h, ba_toList u])
          have HNE : Hid (¬ ts = us) := Lib.hid fun h => htu (by rw [HT.out, HUU.out, h])
          have h1 : (t.toList == u.toList) = false := by simpa using hne
          have h2 : (t.toList != u.toList) = true := by simpa using hne
          clear htu hne
          go_wp2_with fail
          go_quiet (fail)
          go_wp2_with fail
          go_ret
          exact ⟨by rw [decide_eq_false HNE.out]; rfl, d + _, drewN_add _ _ _⟩
      · obtain rfl : k = ts.length := by omega
        have h : ts = us := by
          have h1 := HEQ.out
          rwa [List.take_of_length_le (Nat.le_refl _), List.take_of_length_le (by rw [HLEN.out]; exact Nat.le_refl _)] at h1
        have HD := Lib.hid (decide_eq_true h)
        clear h
        go_wp2_with fail
        go_ret
        exact ⟨by rw [HD.out]; rfl, _, rfl⟩
  · have HD := Lib.hid (decide_eq_false (show ¬ ts = us from fun h => hlen (by rw [h])))
    have hb : ((ts.length : Int) == us.length) = false := by simpa using (show ¬ (ts.length : Int) = us.length by omega)
    have hnb : ((ts.length : Int) != us.length) = true := by simpa using (show ¬ (ts.length : Int) = us.length by omega)
    clear hlen
    go_enter Tryz.func47, Tryz.ntmps47
    go_wp2_with fail
    go_ret
    exact ⟨by rw [HD.out]; rfl, 0, rfl⟩
end Go.Proofs.YtgephceihkkokaaGreatDoor

/-! ### SPlayF -/
namespace Go.Proofs.YtgephceihkkokaaGreatDoor
open Go.RowKit Go.Deep
set_option linter.unusedVariables false
set_option linter.unusedSimpArgs false

theorem rowend_any (s : ByteArray) (bg sy : Int) (any : Bool) (w : World) (h0 : 0 ≤ bg) (h1 : bg ≤ 1000000000) (hs : s.size ≤ 1000000000) :
    Calls Tryz.prog 11 #[.agg #[.string s, .int .i64 bg, .int .i64 sy, .bool any]] w fun e w' => e = .returned (.int .i64 (bg + s.size)) ∧ Below w.heap.size w w' := by
  go_enter Tryz.func11, Tryz.ntmps11
  go_wp2
  go_ret
  exact ⟨rfl, (Below.refl _ _).alloc (Nat.le_refl _) _⟩

theorem owns_on {w w' : World} {base : Nat} {e : TypeId} {sz n : Nat} {v : Value} {xs : List Value} (h : w.ownsRow base e sz v n xs) (hb : Below w.heap.size w w') : w'.ownsRow base e sz v n xs :=
  h.kept (row := none) ⟨hb.os, hb.tape, hb.output, hb.size, fun k hk _ => hb.block k hk⟩ (by by_cases hn : v.ownBlock = none; exact .inl hn; exact .inr hn)
theorem Below.size1 {w : World} {o : Obj} {B : Nat} {w' : World} (h : Below B (w.alloc o) w') : w.heap.size + 1 ≤ w'.heap.size := by have := h.size; simp at this; exact this
theorem plS_len {z j : Nat} (hz : 0 < z) : ∀ (k i : Nat), i + k = j → (plS (z * j) z (z * i)).length = k
  | 0, i, h => by
    obtain rfl : i = j := by omega
    rw [plS_done _ _ _ (by omega)]
    rfl
  | k + 1, i, h => by
    have hlt : z * i < z * j := Nat.mul_lt_mul_of_pos_left (by omega) hz
    rw [plS_step _ _ _ hz hlt, List.length_cons, ← Nat.mul_succ, plS_len hz k (i + 1) (by omega)]
theorem segs_le {z i0 j e : Nat} (hz : 16 ≤ z) (hje : e ≤ z * j) (ht : i0 + 1 < j → z * (j - 1) < e) (hij : i0 ≤ j) (he : e ≤ 1228800) : j - i0 ≤ 100000 := by
  rcases Nat.lt_or_ge (i0 + 1) j with h | h
  · have h1 := ht h
    have h2 : 16 * (j - 1) ≤ z * (j - 1) := Nat.mul_le_mul_right _ hz
    omega
  · omega
theorem strs_own' {w : World} {base : Nat} {v : Value} {ts : List ByteArray} (h : w.ownsRow base 9 1 v ts.length (ts.map Value.string)) : Strs w 0 v ts := by
  rcases h.2 with ⟨e1, h0⟩ | ⟨g', cap, cur, e1, hbs, hg, h3, h4, h5, h6⟩
  · exact ⟨none, 0, by rw [e1, h0], .inl (List.length_eq_zero_iff.1 h0)⟩
  · refine ⟨_, _, e1, .inr ⟨g', 0, rfl, Nat.zero_le _, fun i hi => ?_⟩⟩
    rw [Nat.mul_one] at h6
    have h7 : (cur.toList.take ts.length)[i]? = (ts.map Value.string)[i]? := by rw [h6]
    rw [List.getElem?_take, if_pos hi, Array.getElem?_toList, List.getElem?_map, List.getElem?_eq_getElem hi] at h7
    simp [World.cell?, hg, h7, List.getD_eq_getElem?_getD, List.getElem?_eq_getElem hi]
theorem dg_toNat (u k : Nat) : (Lib.dg u k).toNat = 48 + u / 10 ^ k % 10 := by
  unfold Lib.dg
  rw [UInt8.toNat_ofNat']
  omega
theorem conv8 (u : Nat) : ∀ W : World, (convert 48 9 (.slice (some ⟨W.heap.size, 0, none⟩) 8 8)).run Tryz.prog (W.alloc (.cells #[.int .u8 (48 + (u : Int) / 10000000 % 10), .int .u8 (48 + (u : Int) / 1000000 % 10), .int .u8 (48 + (u : Int) / 100000 % 10), .int .u8 (48 + (u : Int) / 10000 % 10), .int .u8 (48 + (u : Int) / 1000 % 10), .int .u8 (48 + (u : Int) / 100 % 10), .int .u8 (48 + (u : Int) / 10 % 10), .int .u8 (48 + (u : Int) % 10)] 5)) =
    .ok (.string ⟨(dec8 u).toArray⟩) (W.alloc (.cells #[.int .u8 (48 + (u : Int) / 10000000 % 10), .int .u8 (48 + (u : Int) / 1000000 % 10), .int .u8 (48 + (u : Int) / 100000 % 10), .int .u8 (48 + (u : Int) / 10000 % 10), .int .u8 (48 + (u : Int) / 1000 % 10), .int .u8 (48 + (u : Int) / 100 % 10), .int .u8 (48 + (u : Int) / 10 % 10), .int .u8 (48 + (u : Int) % 10)] 5)) := by
  intro W
  have hh := heap_alloc_new W (.cells #[.int .u8 (48 + (u : Int) / 10000000 % 10), .int .u8 (48 + (u : Int) / 1000000 % 10), .int .u8 (48 + (u : Int) / 100000 % 10), .int .u8 (48 + (u : Int) / 10000 % 10), .int .u8 (48 + (u : Int) / 1000 % 10), .int .u8 (48 + (u : Int) / 100 % 10), .int .u8 (48 + (u : Int) / 10 % 10), .int .u8 (48 + (u : Int) % 10)] 5)
  refine run_convert_bytes_back _ 48 9 5 _ 8 (dec8 u) Tryz.underlying48 Tryz.underlying5 Tryz.underlying9 fun j hj => ?_
  rw [add_none, Nat.zero_add]
  unfold World.cell?
  simp only [hh]
  rw [dec8_length] at hj
  have e : ∀ k, ((Lib.dg u k).toNat : Int) = 48 + ((u / 10 ^ k % 10 : Nat) : Int) := fun k => by rw [dg_toNat]; omega
  match j, hj with
  | 0, _ => show some (Value.int .u8 _) = some (Value.int .u8 ((Lib.dg u 7).toNat : Int)); rw [e]; rfl
  | 1, _ => show some (Value.int .u8 _) = some (Value.int .u8 ((Lib.dg u 6).toNat : Int)); rw [e]; rfl
  | 2, _ => show some (Value.int .u8 _) = some (Value.int .u8 ((Lib.dg u 5).toNat : Int)); rw [e]; rfl
  | 3, _ => show some (Value.int .u8 _) = some (Value.int .u8 ((Lib.dg u 4).toNat : Int)); rw [e]; rfl
  | 4, _ => show some (Value.int .u8 _) = some (Value.int .u8 ((Lib.dg u 3).toNat : Int)); rw [e]; rfl
  | 5, _ => show some (Value.int .u8 _) = some (Value.int .u8 ((Lib.dg u 2).toNat : Int)); rw [e]; rfl
  | 6, _ => show some (Value.int .u8 _) = some (Value.int .u8 ((Lib.dg u 1).toNat : Int)); rw [e]; rfl
  | 7, _ => show some (Value.int .u8 _) = some (Value.int .u8 ((Lib.dg u 0).toNat : Int)); rw [e]; simp

/-- The rest of a row's file, and what the law cuts off. -/
theorem cut_piece (B : List UInt8) (D z : Nat) (hD : D ≤ B.length) : (⟨B.toArray⟩ : ByteArray).extract D (min (D + z) B.length) = ⟨((B.drop D).take z).toArray⟩ := by
  apply ByteArray.ext
  apply Array.toList_inj.1
  rw [ByteArray.data_extract, Array.toList_extract, List.extract_eq_take_drop]
  show (B.drop D).take _ = (B.drop D).take z
  rcases Nat.lt_or_ge (D + z) B.length with h | h
  · rw [show min (D + z) B.length - D = z from by omega]
  · rw [show min (D + z) B.length - D = B.length - D from by omega, List.take_of_length_le (by rw [List.length_drop]; exact Nat.le_refl _), List.take_of_length_le (by rw [List.length_drop]; omega)]

set_option maxHeartbeats 4000000 in
set_option maxRecDepth 100000 in
theorem files_any {w0 w : World} {b d n z i0 : Nat} {B : List UInt8} {sy : Int} {any : Bool} (h : Play w0 w b d n z i0 B sy any) (hn : n ≤ 300) (s : ByteArray) (hs : s = ⟨B.toArray⟩) (sx : Int) :
    Calls Tryz.prog 23 #[.pointer (some ⟨d, 0, none⟩), .int .i64 z, .agg #[.string s, .int .i64 ((z * i0 : Nat) : Int), .int .i64 sx, .bool any]] w fun e w' => e = .returned (.bool true) ∧ Below w.heap.size w w' := by
  obtain ⟨j, ⟨ha, hij, hje, htight⟩, hlist⟩ := play_list h (by omega)
  obtain ⟨hz1, hz2, hend, hen⟩ := h.bounds
  have HLS := Lib.hid hlist
  obtain ⟨bg, hbg⟩ : ∃ bg, bg = z * i0 := ⟨_, rfl⟩
  have hss : s.size = B.length := by rw [hs]; simp [ByteArray.size]
  have H := Lib.hid h
  have HS := Lib.hid hs
  rw [← hbg]
  have HBG := Lib.hid hbg
  have HSS := Lib.hid hss
  have HA := Lib.hid ha
  clear h hs hbg hss ha hlist
  go_enter Tryz.func23, Tryz.ntmps23
  go_wp2_with fail
  go_loopw [7, 8] (fun v at_ wr => ∃ (i : Nat) (pre : List ByteArray), i0 ≤ i ∧ i ≤ j ∧ at_ = .int .i64 ((z * i : Nat) : Int) ∧ Hid (pre ++ (plS (z * j) z (z * i)).map (nameB lH) = (plS (z * j) z (z * i0)).map (nameB lH)) ∧ Hid (wr.ownsRow (w.heap.size + 1) 9 1 v pre.length (pre.map Value.string)) ∧ Hid (Below (w.heap.size + 1) (w.alloc (.cells #[.string s, .int .i64 bg, .int .i64 sx, .bool any] 31)) wr)) (fun _ at_ _ => z * j - (intOf at_).toNat)
  case atStart => exact ⟨i0, [], Nat.le_refl _, hij, by rw [HBG.out], Lib.hid rfl, Lib.hid (World.ownsRow_nil _ _ _ _), Lib.hid (Below.refl _ _)⟩
  case round =>
    obtain ⟨i, pre, hi0, hi1, rfl, hpre, hown, hbel⟩ := hrel
    have HCB := Lib.hid (fun W (hW : Below wr.heap.size wr W) => ((Below.refl w.heap.size w).alloc (Nat.le_refl _) _).trans ((hbel.out.mono (Nat.le_succ _)).trans (hW.mono (by have := hbel.out.size; simp at this; omega))))
    have k0 : ∀ q, wr.cell? ⟨w.heap.size, q, none⟩ = (#[.string s, .int .i64 bg, .int .i64 sx, .bool any] : Array Value)[q]? := fun q => by
      rw [hbel.out.cell (p := ⟨w.heap.size, q, none⟩) (by show w.heap.size < _; omega)]
      unfold World.cell?
      simp only [heap_alloc_new]
      rfl
    have hzi : z * i0 ≤ z * i := Nat.mul_le_mul_left z hi0
    obtain ⟨u, hu⟩ : ∃ u, u = z * i := ⟨_, rfl⟩
    have hub : bg ≤ u := by rw [HBG.out, hu]; exact hzi
    rw [← hu]
    have HU := Lib.hid hu
    clear hu
    by_cases hlt : i < j
    · have hc : ((u : Int) < (bg : Int) + s.size) ∨ (¬ ((u : Int) < (bg : Int) + s.size) ∧ u = bg ∧ any = true) := by
        by_cases h1 : (u : Int) < (bg : Int) + s.size
        · exact .inl h1
        · have h2 : i = i0 := by
            rcases Nat.lt_or_ge i0 i with h3 | h3
            · have h4 := htight (by omega)
              have h5 : z * i ≤ z * (j - 1) := Nat.mul_le_mul_left z (by omega)
              rw [HSS.out, HBG.out, HU.out] at h1
              omega
            · omega
          subst h2
          exact .inr ⟨h1, by rw [HU.out, HBG.out], HA.out.2 hlt⟩
      have hub2 : u ≤ 99000000 := by
        rcases hc with h1 | ⟨_, h2, _⟩
        · rw [HSS.out, HBG.out] at h1; omega
        · rw [h2, HBG.out]; omega
      have hss9 : s.size ≤ 1000000000 := by rw [HSS.out]; omega
      have hbg9 : (bg : Int) ≤ 1000000000 := by omega
      go_wp2_with fail
      refine (rowend_any s bg sx any _ (by omega) hbg9 hss9).mono ?_
      rintro e w1 ⟨rfl, hb1⟩
      have k1 : ∀ q, w1.cell? ⟨w.heap.size, q, none⟩ = (#[.string s, .int .i64 bg, .int .i64 sx, .bool any] : Array Value)[q]? := fun q => by
        rw [hb1.cell (p := ⟨w.heap.size, q, none⟩) (World.block_lt_of_cell? (a := ⟨w.heap.size, 0, none⟩) (h := (k0 0).trans rfl))]
        exact k0 q
      have HB1 := Lib.hid hb1
      clear hb1 k0
      have hcv := conv8 u
      obtain ⟨t, ht⟩ : ∃ t, t = (⟨(dec8 u).toArray⟩ : ByteArray) := ⟨_, rfl⟩
      obtain ⟨nm, hnm⟩ : ∃ t, t = nameB lH u := ⟨_, rfl⟩
      have hts : t.size = 8 := by rw [ht]; show (dec8 u).toArray.size = 8; simp [dec8_length]
      have hadd : ∀ W, (Op.stringOp .add ⟨#[108, 111, 103]⟩ t).run Tryz.prog W = .ok (.string nm) W := fun W => by
        rw [run_string_add W _ _ (by show ((3 : Nat) : Int) ≤ _; omega) (by omega), hnm, ht]
        rfl
      rw [← ht] at hcv
      have HNM := Lib.hid hnm
      clear hnm ht hts
      have HOWN1 := Lib.hid (owns_on hown.out HB1.out)
      have HB01 := Lib.hid (HCB.out _ HB1.out)
      obtain ⟨W6, hW6⟩ : ∃ W, W = w1.alloc (.cells #[.int .u8 (48 + (u : Int) / 10000000 % 10), .int .u8 (48 + (u : Int) / 1000000 % 10), .int .u8 (48 + (u : Int) / 100000 % 10), .int .u8 (48 + (u : Int) / 10000 % 10), .int .u8 (48 + (u : Int) / 1000 % 10), .int .u8 (48 + (u : Int) / 100 % 10), .int .u8 (48 + (u : Int) / 10 % 10), .int .u8 (48 + (u : Int) % 10)] 5) := ⟨_, rfl⟩
      have hb6 : Below w1.heap.size w1 W6 := by rw [hW6]; exact (Below.refl _ _).alloc (Nat.le_refl _) _
      have HOWN6 := Lib.hid (owns_on HOWN1.out hb6)
      have HB06 := Lib.hid (HB01.out.trans (hb6.mono HB01.out.size))
      have HBL6 := Lib.hid (hbel.out.trans ((HB1.out.mono (Below.size1 hbel.out)).trans (hb6.mono (Nat.le_trans (Below.size1 hbel.out) HB1.out.size))))
      have k6 : ∀ q, W6.cell? ⟨w.heap.size, q, none⟩ = (#[.string s, .int .i64 bg, .int .i64 sx, .bool any] : Array Value)[q]? := fun q => by
        rw [hb6.cell (p := ⟨w.heap.size, q, none⟩) (World.block_lt_of_cell? (a := ⟨w.heap.size, 0, none⟩) (h := (k1 0).trans rfl))]
        exact k1 q
      obtain ⟨ei, hei, hez0, hez1, hez2⟩ := info_parts info_str
      have hp6 : w.heap.size + 1 ≤ W6.heap.size := by have := HBL6.out.size; simp at this; exact this
      have hpl : pre.length ≤ 100000000 := by
        have h1 := congrArg List.length hpre.out
        rw [List.length_append, List.length_map, List.length_map, plS_len (show 0 < z by omega) (j - i0) i0 (by omega)] at h1
        have := segs_le hz1 hje htight hij (by omega : z * i0 + B.length ≤ 1228800)
        omega
      have HW6 := Lib.hid hW6
      have hcond : z * i < z * i0 + B.length ∨ (i = i0 ∧ any = true) := by
        rcases hc with h1 | ⟨_, h2, h3⟩
        · exact .inl (by rw [HSS.out, HBG.out] at h1; have := HU.out; omega)
        · exact .inr ⟨Nat.eq_of_mul_eq_mul_left (show 0 < z by omega) (by rw [← HU.out, h2, HBG.out]), h3⟩
      have hzij : z * i < z * j := Nat.mul_lt_mul_of_pos_left hlt (by omega)
      obtain ⟨D, hD⟩ : ∃ D, D = z * i - z * i0 := ⟨_, rfl⟩
      have hDu : bg + D = u := by have := HU.out; have := HBG.out; omega
      have hDl : D ≤ B.length := by
        rcases hc with h1 | ⟨_, h2, _⟩
        · rw [HSS.out] at h1; omega
        · omega
      have hpc := cut_piece B D z hDl
      rw [← HS.out, ← HSS.out] at hpc
      obtain ⟨pc, hpc2⟩ : ∃ pc, pc = (⟨((B.drop D).take z).toArray⟩ : ByteArray) := ⟨_, rfl⟩
      have HPA : Hid (∀ W, Chg (fun _ => False) w W → Calls Tryz.prog 46 #[.pointer (some ⟨d, 0, none⟩), .string nm] W fun e w' => e = .returned (.tuple #[.string pc, .int .i64 0]) ∧ Below W.heap.size W w') := Lib.hid fun W hW => by
        have hx := play_all (H.out.new hW) i hi0 hcond
        rw [show nameB lH (z * i) = nm from by rw [HNM.out, HU.out], ← hD, ← hpc2] at hx
        exact hx
      rw [← hpc2] at hpc
      obtain ⟨M, hM⟩ : ∃ M, M = min (D + z) s.size := ⟨_, rfl⟩
      rw [← hM] at hpc
      have hsub : (u : Int) - (bg : Int) = (D : Int) := by omega
      have hmin : min ((D : Int) + (z : Int)) (s.size : Int) = (M : Int) := by omega
      have hDM : D ≤ M := by rw [HSS.out] at hM; omega
      have hMs : M ≤ s.size := by omega
      have hDMi : (D : Int) ≤ (M : Int) := by omega
      have hMsi : (M : Int) ≤ (s.size : Int) := by omega
      have HNEXT : Hid (pre ++ [nm] ++ (plS (z * j) z (z * (i + 1))).map (nameB lH) = (plS (z * j) z (z * i0)).map (nameB lH)) := Lib.hid (by
        rw [← hpre.out, plS_step (z * j) z (z * i) (by omega) hzij, List.map_cons, ← Nat.mul_succ, show nameB lH (z * i) = nm from by rw [HNM.out, HU.out]]
        simp)
      have hux : (u : Int) + (z : Int) = ((z * (i + 1) : Nat) : Int) := by have := HU.out; rw [Nat.mul_succ]; omega
      have hme : z * j - (z * (i + 1)) < z * j - u := by have := HU.out; rw [Nat.mul_succ]; omega
      have HUX := Lib.hid hux
      have HME := Lib.hid hme
      clear hW6 hb6 hcond hD hDu hDl hpc2 hM hux hme
      have hcs : (((u : Int) < (bg : Int) + s.size)) ∨ (decide ((u : Int) < (bg : Int) + s.size) = false ∧ ((u : Int) == (bg : Int)) = true ∧ any = true) := by
        rcases hc with h1 | ⟨h1, h2, h3⟩
        · exact .inl h1
        · exact .inr ⟨decide_eq_false (by omega), by rw [h2]; simp, h3⟩
      clear hc
      have hsx := HS
      rcases hcs with hc | ⟨hc, hc2, rfl⟩
      all_goals
        go_upto_region 6 with fail
        rw [← HW6.out]
        go_wp2_with (at_builtin; go_must (refine wpList_append_own _ rfl _ _ 42 rfl (w.heap.size + 1) 9 ei (.string ⟨#[]⟩) 1 16 Tryz.underlying42 hei hez0 hez1 hez2 rfl (by decide) _ _ _ rfl (HOWN6.out.alloc _) ⟨W6.heap.size, 0, none⟩ 1 1 [.string nm] rfl rfl (cell_one_new _ _ _) ?_ ?_ ?_ ?_ ?_))
        · intro x hx; simp at hx; subst hx; rfl
        · unfold maxLen; omega
        · omega
        · simp; omega
        intro v' w7 hown7 hgrow _
        have HOWN7 := Lib.hid hown7
        have HG7 := Lib.hid (((Below.refl (w.heap.size + 1) W6).alloc hp6 (.cells #[.string nm] 9)).grown hgrow (by simp; omega) (fun k hk => (HOWN6.out.lt k hk).1))
        clear hown7 hgrow
        have hb07 : Below w.heap.size w w7 := HB06.out.trans (HG7.out.mono (Nat.le_succ _))
        have k7 : ∀ q, w7.cell? ⟨w.heap.size, q, none⟩ = _ := fun q => (HG7.out.cell (p := ⟨w.heap.size, q, none⟩) (Nat.lt_succ_self _)).trans (k6 q)
        have HB07 := Lib.hid hb07
        clear hb07
        go_wp2_with fail
        refine (HPA.out _ (Chg.of_below (S := fun _ => False) HB07.out)).mono ?_
        rintro e w8 ⟨rfl, hb8⟩
        have k8 : ∀ q, w8.cell? ⟨w.heap.size, q, none⟩ = _ := fun q => (hb8.cell (p := ⟨w.heap.size, q, none⟩) (World.block_lt_of_cell? (a := ⟨w.heap.size, 0, none⟩) (h := (k7 0).trans rfl))).trans (k7 q)
        have HB8 := Lib.hid hb8
        clear hb8 k7
        go_wp2_with fail
        refine ⟨⟨i + 1, pre ++ [nm], by omega, by omega, by rw [HUX.out], HNEXT, Lib.hid ?_, Lib.hid ?_⟩, ?_⟩
        · have := owns_on HOWN7.out HB8.out
          simpa using this
        · exact (HBL6.out.trans HG7.out).trans (HB8.out.mono (Nat.le_trans hp6 HG7.out.size))
        · rw [HUX.out]
          exact HME.out
    · obtain rfl : i = j := by omega
      have hn1 : ¬ ((u : Int) < (bg : Int) + s.size) := by rw [HSS.out]; have := HU.out; have := HBG.out; omega
      have hn2 : (((u : Int) == (bg : Int)) && any) = false := by
        cases hany : any with
        | false => simp
        | true =>
          have := HA.out.1 hany
          have h3 : z * i0 < z * i := Nat.mul_lt_mul_of_pos_left this (by omega)
          have h4 : ((u : Int) == (bg : Int)) = false := by have := HU.out; have := HBG.out; simp; omega
          rw [h4]; rfl
      have hss9 : s.size ≤ 1000000000 := by rw [HSS.out]; omega
      have hbg9 : (bg : Int) ≤ 1000000000 := by have := HBG.out; omega
      go_wp2_with fail
      refine (rowend_any s bg sx any _ (by omega) hbg9 hss9).mono ?_
      rintro e w1 ⟨rfl, hb1⟩
      have k1 : ∀ q, w1.cell? ⟨w.heap.size, q, none⟩ = (#[.string s, .int .i64 bg, .int .i64 sx, .bool any] : Array Value)[q]? := fun q => by
        rw [hb1.cell (p := ⟨w.heap.size, q, none⟩) (World.block_lt_of_cell? (a := ⟨w.heap.size, 0, none⟩) (h := (k0 0).trans rfl))]
        exact k0 q
      have HB01 := Lib.hid (HCB.out _ hb1)
      have HOWN1 := Lib.hid (owns_on hown.out hb1)
      clear hb1 k0
      have hd1 : decide ((u : Int) < (bg : Int) + s.size) = false := decide_eq_false (by omega)
      have hpreq : pre = (plS (z * i) z (z * i0)).map (nameB lH) := by
        have := hpre.out
        rw [plS_done (z * i) z (z * i) (by omega)] at this
        simpa using this
      have HPRE := Lib.hid hpreq
      have HLL := Lib.hid (HLS.out w1 (Chg.of_below (S := fun _ => False) HB01.out))
      clear hpreq
      have hpl1 : pre.length ≤ 1000000 := by
        have h1 := congrArg List.length HPRE.out
        rw [List.length_map, plS_len (show 0 < z by omega) (i - i0) i0 (by omega)] at h1
        have := segs_le hz1 hje htight hij (by omega : z * i0 + B.length ≤ 1228800)
        omega
      cases hqb : ((u : Int) == (bg : Int)) <;> cases any
      all_goals
        first
        | (exfalso; rw [hqb] at hn2; cases hn2; done)
        | (go_wp2_with fail
           refine HLL.out.mono ?_
           rintro e w2 ⟨⟨v2, rfl, hv2⟩, hb2⟩
           have HV2 := Lib.hid hv2
           have HB2 := Lib.hid (HB01.out.trans (hb2.mono HB01.out.size))
           have HW2 := Lib.hid (strs_own' (owns_on HOWN1.out hb2))
           clear hv2 hb2
           go_wp2_with fail
           refine (refSame_any _ _ _ _ _ HV2.out.zero HW2.out (by rw [← HPRE.out]; exact hpl1)).mono ?_
           rintro e w3 ⟨rfl, q, rfl⟩
           rw [decide_eq_true HPRE.out.symm]
           go_wp2_with fail
           go_ret
           exact ⟨rfl, below_drewN HB2.out _⟩)
end Go.Proofs.YtgephceihkkokaaGreatDoor

/-! ### SPlayS -/
namespace Go.Proofs.YtgephceihkkokaaGreatDoor
open Go.RowKit Go.Deep
set_option linter.unusedVariables false
set_option linter.unusedSimpArgs false

theorem play_first {w0 w : World} {d z : Nat} {g : Gh} (hd : DiskG w0 w d g (newSt 1048576)) (ht : Tab10 w0) (h1 : 16 ≤ z) (h2 : z ≤ 4096) :
    Calls Tryz.prog 10 #[.pointer (some ⟨d, 0, none⟩), .string lH, .int .i64 (z : Int)] w (PlayO w0 d 0 z 0 [] false) := by
  have hn : RowK 0 (newRow lH z) (newSt 1048576) z 0 0 [] := newK (by decide) h1 h2 (new_calm _) rfl (Nat.le_refl _) (fun p h => by cases h) (fun nm h => by cases h)
  refine (k_open hd ht hn (by omega)).mono ?_
  rintro e w' ⟨b', rfl, hb', g', m', hg', hto, hh', hs', hk'⟩
  exact ⟨b', rfl, g', _, m', 0, hg', hto.d.trans hd.d, hh', hs', by simp, hk', by simp⟩
def NoRow (w : World) (e : Ending) (w' : World) : Prop := e = .returned (.tuple #[.pointer none, .int .i64 1]) ∧ Below w.heap.size w w'
theorem open_bad (d : Nat) (head : ByteArray) (size : Int) (w : World) (h : size < 16 ∨ 4096 < size) :
    Calls Tryz.prog 10 #[.pointer (some ⟨d, 0, none⟩), .string head, .int .i64 size] w (NoRow w) := by
  by_cases h1 : size < 16
  · clear h
    go_enter Tryz.func10, Tryz.ntmps10
    go_wp2_with fail
    go_ret2
    exact ⟨rfl, Below.refl _ _⟩
  · have h2 : 4096 < size := by omega
    have h3 : 16 ≤ size := by omega
    clear h h1
    go_enter Tryz.func10, Tryz.ntmps10
    go_wp2_with fail
    go_ret2
    exact ⟨rfl, Below.refl _ _⟩
/-- What the law holds a row against. -/
theorem play_room_eq (z i0 : Nat) (B : List UInt8) (hz : 0 < z) : (((z * i0 + B.length) % z : Nat) : Int) = ((z * i0 + B.length : Nat) : Int) % (z : Int) := Int.natCast_emod _ _
end Go.Proofs.YtgephceihkkokaaGreatDoor

/-! ### SPlayX -/
namespace Go.Proofs.YtgephceihkkokaaGreatDoor
open Go.RowKit Go.Deep
set_option linter.unusedVariables false
set_option linter.unusedSimpArgs false

/-- Blocks beside a row and its disk. -/
def Aside (w0 w : World) (b : Nat) (g : Gh) (Ks : List (Nat × Obj)) : Prop := ∀ p ∈ Ks, p.1 ≠ b ∧ p.1 ∉ g.fp ∧ w0.heap.size ≤ p.1 ∧ w.heap[p.1]? = some p.2
theorem Aside.to {w0 w w' : World} {b : Nat} {g g' : Gh} {Ks : List (Nat × Obj)} (h : Aside w0 w b g Ks) (ht : RowTo w b g g' w') : Aside w0 w' b g' Ks := fun p hp => by
  obtain ⟨h1, h2, h3, h4⟩ := h p hp
  have hlt := (Array.getElem?_eq_some_iff.1 h4).1
  refine ⟨h1, fun hx => ?_, h3, ht.chg.heap h4 (fun hx => hx.elim h1 h2)⟩
  rcases ht.fp _ hx with a | a
  · exact h2 a
  · omega
theorem Aside.new {w0 w w' : World} {b : Nat} {g : Gh} {Ks : List (Nat × Obj)} (h : Aside w0 w b g Ks) (hc : Chg (fun _ => False) w w') : Aside w0 w' b g Ks := h.to (RowTo.new b g hc)
/-- The row that is played, and blocks beside it, which hold what they hold. -/
def PlayX (w0 w : World) (b d n z i0 : Nat) (B : List UInt8) (sy : Int) (any : Bool) (Ks : List (Nat × Obj)) : Prop :=
  ∃ g st m j, (RowG w0 w b g st m ∧ g.d = d ∧ m.head = lH ∧ m.synced = sy ∧ sy ≤ ((z * i0 + B.length : Nat) : Int) ∧ RowK n m st z i0 j B ∧ (any = true ↔ i0 < j)) ∧ Aside w0 w b g Ks
theorem PlayX.play {w0 w : World} {b d n z i0 : Nat} {B : List UInt8} {sy : Int} {any : Bool} {Ks : List (Nat × Obj)} (h : PlayX w0 w b d n z i0 B sy any Ks) : Play w0 w b d n z i0 B sy any := by
  obtain ⟨g, st, m, j, h, _⟩ := h
  exact ⟨g, st, m, j, h⟩
theorem PlayX.chg {w0 w : World} {b d n z i0 : Nat} {B : List UInt8} {sy : Int} {any : Bool} {Ks : List (Nat × Obj)} (h : PlayX w0 w b d n z i0 B sy any Ks) : Chg (fun _ => False) w0 w := h.play.chg
theorem PlayX.at_ {w0 w : World} {b d n z i0 : Nat} {B : List UInt8} {sy : Int} {any : Bool} {Ks : List (Nat × Obj)} (h : PlayX w0 w b d n z i0 B sy any Ks) {p : Nat × Obj} (hp : p ∈ Ks) : w.heap[p.1]? = some p.2 := by
  obtain ⟨g, st, m, j, _, h⟩ := h
  exact (h p hp).2.2.2
theorem PlayX.low {w0 w : World} {b d n z i0 : Nat} {B : List UInt8} {sy : Int} {any : Bool} {Ks : List (Nat × Obj)} (h : PlayX w0 w b d n z i0 B sy any Ks) {p : Nat × Obj} (hp : p ∈ Ks) : w0.heap.size ≤ p.1 := by
  obtain ⟨g, st, m, j, _, h⟩ := h
  exact (h p hp).2.2.1
theorem PlayX.more {w0 w : World} {b d n n' z i0 : Nat} {B : List UInt8} {sy : Int} {any : Bool} {Ks : List (Nat × Obj)} (h : PlayX w0 w b d n z i0 B sy any Ks) (hn : n ≤ n') : PlayX w0 w b d n' z i0 B sy any Ks := by
  obtain ⟨g, st, m, j, ⟨h1, h2, h3, h4, h5, h6, h7⟩, h8⟩ := h
  exact ⟨g, st, m, j, ⟨h1, h2, h3, h4, h5, h6.more hn, h7⟩, h8⟩
theorem PlayX.new {w0 w w' : World} {b d n z i0 : Nat} {B : List UInt8} {sy : Int} {any : Bool} {Ks : List (Nat × Obj)} (h : PlayX w0 w b d n z i0 B sy any Ks) (hc : Chg (fun _ => False) w w') : PlayX w0 w' b d n z i0 B sy any Ks := by
  obtain ⟨g, st, m, j, ⟨h1, h2, h3, h4, h5, h6, h7⟩, h8⟩ := h
  exact ⟨g, st, m, j, ⟨h1.new hc, h2, h3, h4, h5, h6, h7⟩, h8.new hc⟩
theorem PlayX.few {w0 w : World} {b d n z i0 : Nat} {B : List UInt8} {sy : Int} {any : Bool} {Ks Ks' : List (Nat × Obj)} (h : PlayX w0 w b d n z i0 B sy any Ks) (hs : ∀ p ∈ Ks', p ∈ Ks) : PlayX w0 w b d n z i0 B sy any Ks' := by
  obtain ⟨g, st, m, j, h1, h2⟩ := h
  exact ⟨g, st, m, j, h1, fun p hp => h2 p (hs p hp)⟩
/-- One more block. -/
theorem PlayX.add {w0 w : World} {b d n z i0 : Nat} {B : List UInt8} {sy : Int} {any : Bool} {Ks : List (Nat × Obj)} (h : PlayX w0 w b d n z i0 B sy any Ks) (o : Obj) : PlayX w0 (w.alloc o) b d n z i0 B sy any (Ks ++ [(w.heap.size, o)]) := by
  have h0 := h
  obtain ⟨g, st, m, j, ⟨h1, h2, h3, h4, h5, h6, h7⟩, h8⟩ := h
  have hc : Chg (fun _ => False) w (w.alloc o) := Chg.alloc _ (Chg.refl _ _) _
  refine ⟨g, st, m, j, ⟨h1.new hc, h2, h3, h4, h5, h6, h7⟩, fun p hp => ?_⟩
  rcases List.mem_append.1 hp with hp | hp
  · exact h8.new hc p hp
  · rw [List.mem_singleton] at hp
    subst hp
    refine ⟨fun hx => ?_, fun hx => ?_, h1.chg.size, heap_alloc_new _ _⟩
    · have := h1.row.lt; simp only at hx; omega
    · have := h1.disk.lt _ hx; simp only at this; omega
theorem PlayX.drop_all {w0 w : World} {b d n z i0 : Nat} {B : List UInt8} {sy : Int} {any : Bool} (h : Play w0 w b d n z i0 B sy any) : PlayX w0 w b d n z i0 B sy any [] := by
  obtain ⟨g, st, m, j, h⟩ := h
  exact ⟨g, st, m, j, h, fun p hp => by cases hp⟩
theorem PlayX.drewN {w0 w : World} {b d n z i0 : Nat} {B : List UInt8} {sy : Int} {any : Bool} {Ks : List (Nat × Obj)} (h : PlayX w0 w b d n z i0 B sy any Ks) (q : Nat) : PlayX w0 (w.drewN q) b d n z i0 B sy any Ks := h.new ((Chg.refl _ _).drewN q)
theorem PlayX.drew {w0 w : World} {b d n z i0 : Nat} {B : List UInt8} {sy : Int} {any : Bool} {Ks : List (Nat × Obj)} (h : PlayX w0 w b d n z i0 B sy any Ks) : PlayX w0 w.drew b d n z i0 B sy any Ks := h.new (Chg.refl _ _).drew
/-- The law writes to the first of its blocks. -/
theorem PlayX.set {w0 w : World} {b d n z i0 : Nat} {B : List UInt8} {sy : Int} {any : Bool} {K : Nat} {cs : Array Value} {T : TypeId} {Ks : List (Nat × Obj)} (h : PlayX w0 w b d n z i0 B sy any ((K, .cells cs T (0, 0)) :: Ks)) (hK : ∀ p ∈ Ks, p.1 ≠ K) (i : Nat) (v : Value) :
    PlayX w0 (w.setCell ⟨K, i, none⟩ v) b d n z i0 B sy any ((K, .cells (cs.setIfInBounds i v) T (0, 0)) :: Ks) := by
  obtain ⟨g, st, m, j, ⟨h1, h2, h3, h4, h5, h6, h7⟩, h8⟩ := h
  obtain ⟨a1, a2, a3, a4⟩ := h8 _ (List.mem_cons_self ..)
  simp only at a1 a2 a3 a4
  have k : Chg (fun k => k = K) w (w.setCell ⟨K, i, none⟩ v) := Chg.setCell (S := fun k => k = K) (Chg.refl _ _) (fun _ => rfl) _
  refine ⟨g, st, m, j, ⟨⟨h1.disk.chg k (fun q hq hx => a2 (hx ▸ hq)), h1.row.chg k (fun hx => a1 hx.symm), h1.out, h1.chg.trans k (fun q hq hx => ?_), h1.low, h1.lowb, h1.tab0⟩, h2, h3, h4, h5, h6, h7⟩, fun p hp => ?_⟩
  · subst hx
    exact absurd hq (Nat.not_lt.2 a3)
  · rcases List.mem_cons.1 hp with rfl | hp
    · exact ⟨a1, a2, a3, heap_setCell_same w K i _ _ v a4⟩
    · obtain ⟨b1, b2, b3, b4⟩ := h8 p (List.mem_cons_of_mem _ hp)
      exact ⟨b1, b2, b3, k.heap b4 (hK p hp)⟩
theorem playx_of {w0 w w' : World} {b d n z i0 j : Nat} {g : Gh} {st : St} {H : ByteArray} {B : List UInt8} {sy : Int} {any : Bool} {Ks : List (Nat × Obj)} (hk : KTo w0 w b g st H n z i0 j B sy w') (hH : H = lH) (hd : g.d = d) (hsy : sy ≤ ((z * i0 + B.length : Nat) : Int)) (ha : any = true ↔ i0 < j)
    (h8 : Aside w0 w b g Ks) : PlayX w0 w' b d n z i0 B sy any Ks := by
  obtain ⟨g', m', st', h1, h2, _, h4, h5, h6⟩ := hk
  exact ⟨g', st', m', j, ⟨h1, h2.d.trans hd, h4.trans hH, h5, hsy, h6, ha⟩, h8.to h2⟩

def PlayXTo (w0 : World) (v : Value) (b d n z i0 : Nat) (B : List UInt8) (sy : Int) (any : Bool) (Ks : List (Nat × Obj)) (e : Ending) (w' : World) : Prop := e = .returned v ∧ PlayX w0 w' b d n z i0 B sy any Ks

theorem playx_append {w0 w : World} {b d n z i0 : Nat} {B : List UInt8} {sy : Int} {any : Bool} {Ks : List (Nat × Obj)} (h : PlayX w0 w b d n z i0 B sy any Ks) (hn : n ≤ 200) (s : ByteArray) (hs0 : s.size ≠ 0) (hs : s.size ≤ z - (z * i0 + B.length) % z) :
    Calls Tryz.prog 12 #[.pointer (some ⟨b, 0, none⟩), .string s] w (PlayXTo w0 (.tuple #[.int .i64 ((z * i0 + B.length : Nat) : Int), .int .i64 0]) b d (n + 2) z i0 (B ++ s.data.toList) sy true Ks) := by
  obtain ⟨g, st, m, j, ⟨h1, h2, h3, h4, h5, h6, h7⟩, h8⟩ := h
  have hr := h6.row.room_eq
  refine (k_append h1 h6 hn s hs0 (by rw [hr.1]; omega)).mono ?_
  rintro e w' ⟨rfl, hk⟩
  refine ⟨rfl, playx_of (by rw [h4] at hk; exact hk) h3 h2 (by rw [List.length_append]; omega) ⟨fun _ => ?_, fun _ => rfl⟩ h8⟩
  have e1 := h6.row.e1
  have eb := h6.row.eb
  have ij := h6.row.ij
  split
  · omega
  · rename_i hne
    rcases Nat.lt_or_ge i0 j with hlt | hge
    · exact hlt
    · have : j = i0 := by omega
      subst this
      omega
theorem playx_append_bad {w0 w : World} {b d n z i0 : Nat} {B : List UInt8} {sy : Int} {any : Bool} {Ks : List (Nat × Obj)} (h : PlayX w0 w b d n z i0 B sy any Ks) (s : ByteArray) (hs : s.size = 0 ∨ z - (z * i0 + B.length) % z < s.size) (hsl : s.size ≤ maxLen) :
    Calls Tryz.prog 12 #[.pointer (some ⟨b, 0, none⟩), .string s] w (PlayXTo w0 (.tuple #[.int .i64 0, .int .i64 1]) b d n z i0 B sy any Ks) := by
  obtain ⟨g, st, m, j, ⟨h1, h2, h3, h4, h5, h6, h7⟩, h8⟩ := h
  have hr := h6.row.room_eq
  refine (k_append_bad2 h1 h6 s (hs.imp id fun hx => by rw [hr.1]; omega) hsl).mono ?_
  rintro e w' ⟨rfl, hk⟩
  exact ⟨rfl, playx_of (by rw [h4] at hk; exact hk) h3 h2 h5 h7 h8⟩
theorem playx_sync {w0 w : World} {b d n z i0 : Nat} {B : List UInt8} {sy : Int} {any : Bool} {Ks : List (Nat × Obj)} (h : PlayX w0 w b d n z i0 B sy any Ks) (hn : n ≤ 1048576) :
    Calls Tryz.prog 14 #[.pointer (some ⟨b, 0, none⟩)] w (PlayXTo w0 (.int .i64 0) b d n z i0 B ((z * i0 + B.length : Nat) : Int) any Ks) := by
  obtain ⟨g, st, m, j, ⟨h1, h2, h3, h4, h5, h6, h7⟩, h8⟩ := h
  refine (k_sync h1 h6 hn).mono ?_
  rintro e w' ⟨rfl, hk⟩
  exact ⟨rfl, playx_of hk h3 h2 (Int.le_refl _) h7 h8⟩
theorem playx_cut {w0 w : World} {b d n z i0 : Nat} {B : List UInt8} {sy : Int} {any : Bool} {Ks : List (Nat × Obj)} (h : PlayX w0 w b d n z i0 B sy any Ks) (hn : n ≤ 1048576) (a : Nat) (ha0 : z * i0 ≤ a) (ha1 : a ≤ z * i0 + B.length) :
    Calls Tryz.prog 15 #[.pointer (some ⟨b, 0, none⟩), .int .i64 (a : Int)] w (PlayXTo w0 (.int .i64 0) b d n z i0 (B.take (a - z * i0)) (min sy (a : Int)) any Ks) := by
  obtain ⟨g, st, m, j, ⟨h1, h2, h3, h4, h5, h6, h7⟩, h8⟩ := h
  refine (k_cut h1 h6 hn a ha0 ha1 (by rw [h4, h6.row.end_]; exact h5)).mono ?_
  rintro e w' ⟨rfl, j', hj1, hj2, hk⟩
  have ij := h6.row.ij
  refine ⟨rfl, playx_of (by rw [h4] at hk; exact hk) h3 h2 (by rw [List.length_take]; omega) (h7.trans ⟨hj1, fun hx => ?_⟩) h8⟩
  rcases Nat.lt_or_ge i0 j with hlt | hge
  · exact hlt
  · have := hj2 (by omega); omega
theorem playx_cut_bad {w0 w : World} {b d n z i0 : Nat} {B : List UInt8} {sy : Int} {any : Bool} {Ks : List (Nat × Obj)} (h : PlayX w0 w b d n z i0 B sy any Ks) (a : Int) (ha : a < ((z * i0 : Nat) : Int) ∨ ((z * i0 + B.length : Nat) : Int) < a) :
    Calls Tryz.prog 15 #[.pointer (some ⟨b, 0, none⟩), .int .i64 a] w (PlayXTo w0 (.int .i64 2) b d n z i0 B sy any Ks) := by
  obtain ⟨g, st, m, j, ⟨h1, h2, h3, h4, h5, h6, h7⟩, h8⟩ := h
  refine (k_cut_bad h1 h6 a ha).mono ?_
  rintro e w' ⟨rfl, hk⟩
  exact ⟨rfl, playx_of (by rw [h4] at hk; exact hk) h3 h2 h5 h7 h8⟩
theorem playx_drop {w0 w : World} {b d n z i0 : Nat} {B : List UInt8} {sy : Int} {any : Bool} {Ks : List (Nat × Obj)} (h : PlayX w0 w b d n z i0 B sy any Ks) (hn : n ≤ 1048576) (hB : z < B.length) :
    Calls Tryz.prog 16 #[.pointer (some ⟨b, 0, none⟩)] w (PlayXTo w0 (.tuple #[.int .i64 ((z * (i0 + 1) : Nat) : Int), .int .i64 0]) b d n z (i0 + 1) (B.drop z) (max sy ((z * (i0 + 1) : Nat) : Int)) any Ks) := by
  obtain ⟨g, st, m, j, ⟨h1, h2, h3, h4, h5, h6, h7⟩, h8⟩ := h
  have hij := (two_segs h6).2 hB
  have hs : z * (i0 + 1) = z * i0 + z := Nat.mul_succ z i0
  refine (k_drop h1 h6 hn hij).mono ?_
  rintro e w' ⟨rfl, hk⟩
  exact ⟨rfl, playx_of (by rw [h4] at hk; exact hk) h3 h2 (by rw [List.length_drop]; omega) (h7.trans ⟨fun _ => hij, fun _ => by omega⟩) h8⟩
theorem playx_drop_few {w0 w : World} {b d n z i0 : Nat} {B : List UInt8} {sy : Int} {any : Bool} {Ks : List (Nat × Obj)} (h : PlayX w0 w b d n z i0 B sy any Ks) (hB : B.length ≤ z) :
    Calls Tryz.prog 16 #[.pointer (some ⟨b, 0, none⟩)] w (PlayXTo w0 (.tuple #[.int .i64 0, .int .i64 9]) b d n z i0 B sy any Ks) := by
  obtain ⟨g, st, m, j, ⟨h1, h2, h3, h4, h5, h6, h7⟩, h8⟩ := h
  have hij : j ≤ i0 + 1 := by
    rcases Nat.lt_or_ge (i0 + 1) j with hlt | hge
    · have := (two_segs h6).1 hlt; omega
    · exact hge
  refine (k_drop_few h1 h6 hij).mono ?_
  rintro e w' ⟨rfl, hk⟩
  exact ⟨rfl, playx_of (by rw [h4] at hk; exact hk) h3 h2 h5 h7 h8⟩
def PlayXO (w0 : World) (d n z i0 : Nat) (B : List UInt8) (any : Bool) (Ks : List (Nat × Obj)) (e : Ending) (w' : World) : Prop := ∃ b, e = .returned (.tuple #[.pointer (some ⟨b, 0, none⟩), .int .i64 0]) ∧ PlayX w0 w' b d n z i0 B ((z * i0 : Nat) : Int) any Ks
theorem playx_open {w0 w : World} {b d n z i0 : Nat} {B : List UInt8} {sy : Int} {any : Bool} {Ks : List (Nat × Obj)} (h : PlayX w0 w b d n z i0 B sy any Ks) (hn : n ≤ 1048576) :
    Calls Tryz.prog 10 #[.pointer (some ⟨d, 0, none⟩), .string lH, .int .i64 (z : Int)] w (PlayXO w0 d n z i0 B any Ks) := by
  obtain ⟨g, st, m, j, ⟨h1, h2, h3, h4, h5, h6, h7⟩, h8⟩ := h
  have hc := k_open (DiskG.of h1 h2) h1.tab0 h6 hn
  rw [h3] at hc
  refine hc.mono ?_
  rintro e w' ⟨b', rfl, hb', g', m', hg', hto, hh', hs', hk'⟩
  refine ⟨b', rfl, g', st, m', j, ⟨hg', hto.d.trans h2, hh', hs', by omega, hk', h7⟩, fun p hp => ?_⟩
  obtain ⟨a1, a2, a3, a4⟩ := h8 p hp
  have hlt := (Array.getElem?_eq_some_iff.1 a4).1
  refine ⟨by omega, fun hx => ?_, a3, hto.chg.heap a4 a2⟩
  rcases hto.fp _ hx with a | a
  · exact a2 a
  · omega
/-- How many names the disk lists: of a row of one segment at most, no more than one. -/
def ListFew (W : World) (e : Ending) (w' : World) : Prop := ∃ v ts, e = .returned v ∧ Strs w' W.heap.size v ts ∧ ts.length ≤ 1 ∧ Below W.heap.size W w'
theorem play_list_few {w0 w : World} {b d n z i0 : Nat} {B : List UInt8} {sy : Int} {any : Bool} (h : Play w0 w b d n z i0 B sy any) (hn : n ≤ 1048576) (hB : B.length ≤ z) :
    Calls Tryz.prog 17 #[.pointer (some ⟨d, 0, none⟩), .string lH] w (ListFew w) := by
  obtain ⟨j, ⟨ha, hij, hje, ht⟩, hl⟩ := play_list h hn
  obtain ⟨hz, _, _, _⟩ := h.bounds
  refine (hl w (Chg.refl _ _)).mono ?_
  rintro e w' ⟨⟨v, rfl, hv⟩, hb⟩
  refine ⟨v, _, rfl, hv, ?_, hb⟩
  have hj1 : j ≤ i0 + 1 := by
    rcases Nat.lt_or_ge (i0 + 1) j with hlt | hge
    · have h1 := ht hlt
      have h2 : z * (i0 + 1) ≤ z * (j - 1) := Nat.mul_le_mul_left z (by omega)
      have h3 : z * (i0 + 1) = z * i0 + z := Nat.mul_succ z i0
      omega
    · exact hge
  rw [List.length_map, plS_len (show 0 < z by omega) (j - i0) i0 (by omega)]
  omega
/-- The same, where the row has more: a list of some length. -/
def ListAny (W : World) (e : Ending) (w' : World) : Prop := ∃ v ts, e = .returned v ∧ Strs w' W.heap.size v ts ∧ Below W.heap.size W w'
theorem play_list_any {w0 w : World} {b d n z i0 : Nat} {B : List UInt8} {sy : Int} {any : Bool} (h : Play w0 w b d n z i0 B sy any) (hn : n ≤ 1048576) :
    Calls Tryz.prog 17 #[.pointer (some ⟨d, 0, none⟩), .string lH] w (ListAny w) := by
  obtain ⟨j, _, hl⟩ := play_list h hn
  refine (hl w (Chg.refl _ _)).mono ?_
  rintro e w' ⟨⟨v, rfl, hv⟩, hb⟩
  exact ⟨v, _, rfl, hv, hb⟩
end Go.Proofs.YtgephceihkkokaaGreatDoor

/-! ### InvG -/
namespace Go.Proofs.YtgephceihkkokaaGreatDoor
open Go.RowKit Go.Deep
set_option linter.unusedVariables false
set_option linter.unusedSimpArgs false

/-- A guarded operation's slot: v where its guard lets it be done. -/
def gv (c : Bool) (v : Value) : Value := bif c then v else undef
theorem gv_true (v : Value) : gv true v = v := rfl
theorem gv_false (v : Value) : gv false v = undef := rfl
section
variable {P : Program} {ops : Array Oper} {Q : Exit → Act → World → Prop}
/-- An operation that waits on operation j's Boolean. -/
theorem StepAt.guarded {n : Nat} {a0 : Act} {R : Nat → Value → World → Prop} {G : World → Prop} {Gr : World → World → Prop} {i : Nat} {o : Oper} (j d : Nat) (want : Bool) (o' : Oper) (hg : o.guard = some (j, want)) (ho' : ops[j]? = some o') (hd : o'.dst = some d) (hdn : d < n) (hw : waits o j = true)
    (c : Bool) (hc : ∀ w v, R j v w → ((match v with | .bool b => some b | _ => none) = some want ↔ c = true)) (h0 : c = false → ∀ w, R i undef w)
    (h : c = true → ∀ f w, G w → (∀ t, dstFree ops t = true → f t = a0.tmps.getD t undef) → (∀ j o' d, ops[j]? = some o' → o'.dst = some d → waits o j = true → R j (f d) w) →
      ∀ K : Act → World → Prop, (∀ v w', R i v w' → G w' → Gr w w' → K ((Fr n f).put o.dst v) w') → o.wp P (Fr n f) w K Q) : StepAt P ops Q n a0 R G Gr i o := by
  intro f w hG hfr hp
  have h1 := hc w (f d) (hp j o' d ho' hd hw)
  have h2 : Region.wanted o (yielded ops (Fr n f).tmps) = c := by
    unfold Region.wanted
    rw [hg]
    show ((yielded ops (Fr n f).tmps j) == some want) = c
    have h3 : yielded ops (Fr n f).tmps j = (match f d with | .bool b => some b | _ => none) := by
      unfold yielded
      rw [ho']
      show (match ((some o'.dst).bind id).bind ((Fr n f).tmps[·]?) with | some (.bool b) => some b | _ => none) = _
      rw [hd]
      show (match (Fr n f).tmps[d]? with | some (.bool b) => some b | _ => none) = _
      rw [fr_some hdn]
      cases f d <;> rfl
    rw [h3]
    rw [Bool.eq_iff_iff, ← h1, beq_iff_eq]
  rw [h2]
  cases hcc : c with
  | true => rw [if_pos rfl]; exact h hcc f w hG hfr hp
  | false => rw [if_neg (by decide)]; exact h0 hcc w
end
/-- The frame behind a region: what it wrote, at D, anew; all else as it was. -/
def mixL (D : List Nat) (f : Nat → Value) : Nat → List Value → List Value
  | _, [] => []
  | i, v :: l => (bif D.elem i then f i else v) :: mixL D f (i + 1) l
theorem mixL_eq (D : List Nat) (f : Nat → Value) : ∀ (l : List Value) (k : Nat), (∀ i, i < l.length → D.elem (k + i) = false → f (k + i) = l.getD i undef) → mixL D f k l = (List.range' k l.length).map f
  | [], _, _ => rfl
  | v :: l, k, h => by
    unfold mixL
    rw [List.length_cons, List.range'_succ, List.map_cons]
    congr 1
    · have h0 := h 0 (by simp)
      rw [Nat.add_zero] at h0
      cases hd : D.elem k with
      | true => rfl
      | false => exact (h0 hd).symm
    · refine mixL_eq D f l (k + 1) fun i hi hd => ?_
      have := h (i + 1) (by simp; omega)
      rw [Nat.add_comm i 1, ← Nat.add_assoc] at this
      rw [this hd]
      simp [List.getD_eq_getElem?_getD, Nat.add_comm 1 i]
theorem fr_back {ops : Array Oper} {n : Nat} {f : Nat → Value} {l : List Value} {D : List Nat} (hs : l.length = n) (hD : ((List.range n).all fun t => D.elem t || dstFree ops t) = true) (hfr : ∀ t, dstFree ops t = true → f t = (⟨l.toArray, []⟩ : Act).tmps.getD t undef) :
    Fr n f = ⟨(mixL D f 0 l).toArray, []⟩ := by
  unfold Fr
  rw [mixL_eq D f l 0 (fun i hi hd => ?_), hs, List.range_eq_range']
  rw [Nat.zero_add] at hd ⊢
  have h1 := (List.all_eq_true.1 hD) i (List.mem_range.2 (by omega))
  rw [hd, Bool.false_or] at h1
  rw [hfr i h1]
  simp [List.getD_eq_getElem?_getD, hi]
end Go.Proofs.YtgephceihkkokaaGreatDoor

/-! ### SOpenP -/
namespace Go.Proofs.YtgephceihkkokaaGreatDoor
open Go.RowKit Go.Deep
open Go.ChangeShapes Go.WideShapes
set_option linter.unusedVariables false
set_option linter.unusedSimpArgs false

instance : Inhabited OpR := ⟨⟨0, 0, 0, ⟨#[]⟩⟩⟩
section
variable {H : Type} {enc : TypeId × Value → H} {W : World}
set_option maxRecDepth 100000 in
theorem opr_open {n : Nat} {b o : Nat} {cs : List Value} {y : DataW H × List MemPlace} (hcs : W.cells? 0 ⟨b, o, none⟩ 4 = some cs) (h : DataW.trod enc Tryz.prog W 0 (fun _ => true) true n 33 cs = some y) :
    ∃ x : OpR, OpRAt W b o x ∧ x.s.size ≤ maxLen := by
  obtain ⟨_, hlen, hat⟩ := World.cells?_some hcs
  obtain ⟨xs, m, _, _, _, hxl, hf⟩ := DataW.trod_struct Tryz.underlying33 h
  match cs, hlen with
  | [c0, c1, c2, c3], _ =>
    have hx : xs.length = 4 := hxl
    match xs, hx with
    | [y0, y1, y2, y3], _ =>
      have f0 : DataW.trod enc Tryz.prog W 0 (fun _ => true) true m 3 [c0] = some y0 := hf 0 _ rfl
      have f1 : DataW.trod enc Tryz.prog W 0 (fun _ => true) true m 3 [c1] = some y1 := hf 1 _ rfl
      have f2 : DataW.trod enc Tryz.prog W 0 (fun _ => true) true m 3 [c2] = some y2 := hf 2 _ rfl
      have f3 : DataW.trod enc Tryz.prog W 0 (fun _ => true) true m 9 [c3] = some y3 := hf 3 _ rfl
      obtain ⟨k, e0, _, _⟩ := DataW.trod_int Tryz.underlying3 f0
      obtain ⟨a, e1, _, _⟩ := DataW.trod_int Tryz.underlying3 f1
      obtain ⟨nn, e2, _, _⟩ := DataW.trod_int Tryz.underlying3 f2
      obtain ⟨s, e3, _, w3⟩ := DataW.trod_string Tryz.underlying9 f3
      obtain rfl : c0 = _ := List.singleton_inj.1 e0
      obtain rfl : c1 = _ := List.singleton_inj.1 e1
      obtain rfl : c2 = _ := List.singleton_inj.1 e2
      obtain rfl : c3 = _ := List.singleton_inj.1 e3
      have at_' : ∀ j, j < 4 → W.cell? ⟨b, o + j, none⟩ = [Value.int .i64 k, .int .i64 a, .int .i64 nn, .string s][j]? := fun j hj => by
        have := hat j hj
        rw [add_none] at this
        exact this
      exact ⟨⟨k, a, nn, s⟩, ⟨at_' 0 (by decide), at_' 1 (by decide), at_' 2 (by decide), at_' 3 (by decide)⟩, w3⟩
set_option maxRecDepth 100000 in
theorem oprs_open {n : Nat} {la : Option Addr} {len cap : Nat} {y : DataW H × List MemPlace} (h : DataW.trod enc Tryz.prog W 0 (fun _ => true) true n 22 [.slice la len cap] = some y) :
    ∃ os, OpsR W (.slice la len cap) os ∧ os.length ≤ maxLen ∧ ∀ x ∈ os, x.s.size ≤ maxLen := by
  rcases open_slice Tryz.underlying22 h with ⟨hcs, _⟩ | ⟨a, l, c, m, q, D, Pl, hcs, _, hl, hm, hmm, _, hi⟩
  · cases hcs
    exact ⟨[], ⟨none, 0, rfl, .inl rfl⟩, Nat.zero_le _, fun x hx => by cases hx⟩
  · cases hcs
    have hC : Tryz.prog.cellsOf 33 = 4 := by kernel_rfl
    rcases Nat.eq_zero_or_pos len with h0 | h0
    · subst h0
      exact ⟨[], ⟨some a, cap, rfl, .inl rfl⟩, Nat.zero_le _, fun x hx => by cases hx⟩
    · have hml : len ≤ m := by rw [hmm]; simpa using hl
      obtain ⟨b, off, spot⟩ := a
      have hspot : spot = none := by
        obtain ⟨cs', h1, _⟩ := hi 0 (by omega)
        rw [hC] at h1
        obtain ⟨_, hlen, hat⟩ := World.cells?_some h1
        have h2 := hat 0 (by decide)
        rw [List.getElem?_eq_getElem (by omega)] at h2
        simpa [Addr.add] using World.cell?_spot h2
      subst hspot
      obtain ⟨X, hX⟩ := choose_lt (n := len) (p := fun i x => OpRAt W b (off + i * 4) x ∧ x.s.size ≤ maxLen) (fun i hil => by
        obtain ⟨cs', h1, h2⟩ := hi i (by omega)
        rw [hC, add_none] at h1
        exact opr_open h1 h2)
      refine ⟨(List.range len).map X, ⟨_, cap, by simp, .inr ⟨b, off, rfl, fun i x hx => ?_⟩⟩, by simpa using Nat.le_trans hl hm, fun x hx => ?_⟩
      · rw [List.getElem?_map] at hx
        obtain ⟨j, hj, rfl⟩ := Option.map_eq_some_iff.1 hx
        have hjl := List.getElem?_eq_some_iff.1 hj
        obtain ⟨h1, h2⟩ := hjl
        rw [List.getElem_range] at h2
        subst h2
        exact (hX _ (by simpa using h1)).1
      · obtain ⟨i, hil, rfl⟩ := List.mem_map.1 hx
        exact (hX i (List.mem_range.1 hil)).2
end
end Go.Proofs.YtgephceihkkokaaGreatDoor
