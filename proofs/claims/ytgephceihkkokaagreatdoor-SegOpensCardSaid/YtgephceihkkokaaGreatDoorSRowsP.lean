/-
  Two rows on one disk; the operations of a script.
-/
import Derived.Test.YtgephceihkkokaaGreatDoorSRowAll
namespace Go.Proofs.YtgephceihkkokaaGreatDoor
open Go.RowKit Go.Deep
set_option linter.unusedVariables false
set_option linter.unusedSimpArgs false
attribute [local go_sem] fr_opt

/-- A law's end: true, and but for new memory all is as it was. -/
def FineR (w : World) (e : Ending) (w' : World) : Prop := e = .returned (.bool true) ∧ Chg (fun _ => False) w w'
/-- One call of a script. -/
structure OpR where
  k : Int
  a : Int
  n : Int
  s : ByteArray
structure OpRAt (w : World) (b o : Nat) (x : OpR) : Prop where
  c0 : w.cell? ⟨b, o, none⟩ = some (.int .i64 x.k)
  c1 : w.cell? ⟨b, o + 1, none⟩ = some (.int .i64 x.a)
  c2 : w.cell? ⟨b, o + 2, none⟩ = some (.int .i64 x.n)
  c3 : w.cell? ⟨b, o + 3, none⟩ = some (.string x.s)
theorem OpRAt.new {w w' : World} {b o : Nat} {x : OpR} (h : OpRAt w b o x) (hc : Chg (fun _ => False) w w') : OpRAt w' b o x :=
  ⟨hc.cell h.c0 (fun x => x), hc.cell h.c1 (fun x => x), hc.cell h.c2 (fun x => x), hc.cell h.c3 (fun x => x)⟩
def OpsR (w : World) (v : Value) (os : List OpR) : Prop :=
  ∃ a cap, v = .slice a os.length cap ∧ (os = [] ∨ ∃ b o, a = some ⟨b, o, none⟩ ∧ ∀ i x, os[i]? = some x → OpRAt w b (o + i * 4) x)
theorem OpsR.new {w w' : World} {v : Value} {os : List OpR} (h : OpsR w v os) (hc : Chg (fun _ => False) w w') : OpsR w' v os := by
  obtain ⟨a, cap, e, h⟩ := h
  refine ⟨a, cap, e, ?_⟩
  rcases h with h | ⟨b, o, ha, h⟩
  · exact .inl h
  · exact .inr ⟨b, o, ha, fun i x hx => (h i x hx).new hc⟩
theorem OpsR.at_ {w : World} {a : Option Addr} {len cap : Nat} {os : List OpR} (h : OpsR w (.slice a len cap) os) {i : Nat} (hi : i < os.length) : ∃ b o x, a = some ⟨b, o, none⟩ ∧ os[i]? = some x ∧ x ∈ os ∧ OpRAt w b (o + i * 4) x := by
  obtain ⟨a', cap', e, h⟩ := h
  cases e
  rcases h with h | ⟨b, o, ha, h⟩
  · subst h; simp at hi
  · exact ⟨b, o, os[i], ha, List.getElem?_eq_getElem hi, List.getElem_mem hi, h i _ (List.getElem?_eq_getElem hi)⟩
/-- What Append tells where it does nothing, of any text. -/
theorem append_arg2 (b d : Nat) (m : RowM) (s : ByteArray) (w : World) (h : RowAt w b d m) (h1 : 0 ≤ m.end_) (h2 : m.end_ ≤ m.next) (h3 : m.next ≤ 1099511627776) (hs : s.size = 0 ∨ roomR m < s.size) (hsl : s.size ≤ maxLen) :
    Calls Tryz.prog 12 #[.pointer (some ⟨b, 0, none⟩), .string s] w fun e w' => e = .returned (.tuple #[.int .i64 0, .int .i64 1]) ∧ ∃ q, w' = w.drewN q := by
  have hR := rroom_any b d m w h h1 h2 h3
  rw [show (if m.end_ = m.next then m.size else m.next - m.end_) = roomR m from rfl] at hR
  obtain ⟨rm, hrm⟩ : ∃ rm, rm = roomR m := ⟨_, rfl⟩
  rw [← hrm] at hR hs
  have HR := Lib.hid hR
  unfold maxLen at hsl
  clear hR h hrm h1 h2 h3
  by_cases h0 : s.size = 0
  · have hz : s.toList.isEmpty = true := by
      have : s.toList = [] := by rw [ByteArray.toList_eq]; exact List.length_eq_zero_iff.1 (by rw [Array.length_toList]; exact h0)
      rw [this]; rfl
    clear h0 hs
    go_enter Tryz.func12, Tryz.ntmps12
    go_wp2_with (go_at_call 21; refine HR.out.mono ?_; rintro e w1 ⟨rfl, q, rfl⟩)
    go_ret2
    first | exact ⟨rfl, q, rfl⟩ | exact ⟨rfl, 0, rfl⟩
  · have hz : s.toList.isEmpty = false := by
      rw [List.isEmpty_eq_false_iff]
      intro hx
      apply h0
      rw [ByteArray.toList_eq] at hx
      have := congrArg List.length hx
      rw [Array.length_toList] at this
      exact this
    have hlt : rm < (s.size : Int) := by omega
    clear h0 hs
    go_enter Tryz.func12, Tryz.ntmps12
    go_wp2_with (go_at_call 21; refine HR.out.mono ?_; rintro e w1 ⟨rfl, q, rfl⟩)
    go_ret2
    exact ⟨rfl, q, rfl⟩
theorem k_append_bad2 {w0 w : World} {b : Nat} {g : Gh} {st : St} {m : RowM} {n z i0 j : Nat} {all : List UInt8} (hg : RowG w0 w b g st m) (h : RowK n m st z i0 j all) (s : ByteArray) (hs : s.size = 0 ∨ roomR m < s.size) (hsl : s.size ≤ maxLen) :
    Calls Tryz.prog 12 #[.pointer (some ⟨b, 0, none⟩), .string s] w fun e w' => e = .returned (.tuple #[.int .i64 0, .int .i64 1]) ∧ KTo w0 w b g st m.head n z i0 j all m.synced w' := by
  have hok := h.row.rowOk
  refine (append_arg2 b g.d m s w hg.row hok.e0 hok.en (by have := hok.nx; omega) hs hsl).mono ?_
  rintro e w' ⟨rfl, q, rfl⟩
  exact ⟨rfl, g, m, st, hg.drewN q, RowTo.new b g ((Chg.refl _ _).drewN q), Others.refl _ _, rfl, rfl, h⟩

def aH : ByteArray := ⟨#[97, 45]⟩
def bH : ByteArray := ⟨#[98, 45]⟩
theorem heads_apart {nm : ByteArray} (h : Lib.hasPrefix nm.data.toList aH.data.toList = true) : Lib.hasPrefix nm.data.toList bH.data.toList = false := by
  unfold Lib.hasPrefix at *
  show List.isPrefixOf [98, 45] nm.data.toList = false
  have h : List.isPrefixOf [97, 45] nm.data.toList = true := h
  revert h
  generalize nm.data.toList = l
  intro h
  match l with
  | [] => rfl
  | x :: l' =>
    simp [List.isPrefixOf] at h ⊢
    intro hx
    subst hx
    simp at h
theorem heads_apart2 {nm : ByteArray} (h : Lib.hasPrefix nm.data.toList bH.data.toList = true) : Lib.hasPrefix nm.data.toList aH.data.toList = false := by
  cases hx : Lib.hasPrefix nm.data.toList aH.data.toList with
  | false => rfl
  | true =>
    have := heads_apart hx
    rw [h] at this
    cases this
/-- Both rows. -/
def Two (w0 w : World) (a b d n : Nat) (A : ByteArray) : Prop :=
  ∃ g st ma mb ja ib jb allb, RowG w0 w a g st ma ∧ RowG w0 w b g st mb ∧ g.d = d ∧ a ≠ b ∧ ma.head = aH ∧ mb.head = bH ∧ mb.synced ≤ mb.end_ ∧ RowK n ma st 16 0 ja A.data.toList ∧ RowK n mb st 20 ib jb allb
theorem Two.more {w0 w : World} {a b d n n' : Nat} {A : ByteArray} (h : Two w0 w a b d n A) (hn : n ≤ n') : Two w0 w a b d n' A := by
  obtain ⟨g, st, ma, mb, ja, ib, jb, allb, h1, h2, h3, h4, h5, h6, h7, h8, h9⟩ := h
  exact ⟨g, st, ma, mb, ja, ib, jb, allb, h1, h2, h3, h4, h5, h6, h7, h8.more hn, h9.more hn⟩
theorem two_of_a {w0 w w' : World} {a b d n n' ja ib jb : Nat} {A : ByteArray} {allb : List UInt8} {g : Gh} {st : St} {mb : RowM} {sy : Int} (hb : RowG w0 w b g st mb) (hd : g.d = d) (hab : a ≠ b) (hh : mb.head = bH) (hsy : mb.synced ≤ mb.end_) (hkb : RowK n mb st 20 ib jb allb) (hn : n ≤ n')
    (hto : KTo w0 w a g st aH n' 16 0 ja A.data.toList sy w') : Two w0 w' a b d n' A := by
  obtain ⟨g', m', st', hg', ht', ho, hh', _, hk'⟩ := hto
  refine ⟨g', st', m', mb, ja, ib, jb, allb, hg', hb.other (Ne.symm hab) hg'.disk ht' hg'.chg hg'.low, ht'.d.trans hd, hab, hh', hh, hsy, hk', ?_⟩
  refine hkb.keep hn hk'.row.calm hk'.cap hk'.size hk'.nm ho fun nm hx => ?_
  rw [hh] at hx
  exact heads_apart2 hx
theorem two_of_b {w0 w w' : World} {a b d n n' ja ib jb : Nat} {A : ByteArray} {allb : List UInt8} {g : Gh} {st : St} {ma : RowM} {sy : Int} (ha : RowG w0 w a g st ma) (hd : g.d = d) (hab : a ≠ b) (hh : ma.head = aH) (hka : RowK n ma st 16 0 ja A.data.toList) (hn : n ≤ n')
    (hto : KTo w0 w b g st bH n' 20 ib jb allb sy w') (hsy : sy ≤ ((20 * ib + allb.length : Nat) : Int)) : Two w0 w' a b d n' A := by
  obtain ⟨g', m', st', hg', ht', ho, hh', hs', hk'⟩ := hto
  refine ⟨g', st', ma, m', ja, ib, jb, allb, ha.other hab hg'.disk ht' hg'.chg hg'.low, hg', ht'.d.trans hd, hab, hh, hh', by rw [hs', hk'.row.end_]; exact hsy, ?_, hk'⟩
  refine hka.keep hn hk'.row.calm hk'.cap hk'.size hk'.nm ho fun nm hx => ?_
  rw [hh] at hx
  exact heads_apart hx
/-- Append to the first row. -/
def TwoA (w0 : World) (a b d n : Nat) (A s : ByteArray) (e : Ending) (w' : World) : Prop := ∃ x k : Int, e = .returned (.tuple #[.int .i64 x, .int .i64 k]) ∧ ((k = 0 ∧ x = A.size ∧ s.size ≤ 16 ∧ Two w0 w' a b d (n + 2) (A ++ s)) ∨ (k = 1 ∧ Two w0 w' a b d (n + 2) A))
theorem two_append_a {w0 w : World} {a b d n : Nat} {A : ByteArray} (h : Two w0 w a b d n A) (hn : n ≤ 200) (s : ByteArray) (hs : s.size ≤ maxLen) :
    Calls Tryz.prog 12 #[.pointer (some ⟨a, 0, none⟩), .string s] w (TwoA w0 a b d n A s) := by
  obtain ⟨g, st, ma, mb, ja, ib, jb, allb, h1, h2, h3, h4, h5, h6, h7, h8, h9⟩ := h
  by_cases hr : s.size = 0 ∨ roomR ma < s.size
  · refine (k_append_bad2 h1 h8 s hr hs).mono ?_
    rintro e w' ⟨rfl, hto⟩
    rw [h5] at hto
    exact ⟨0, 1, rfl, .inr ⟨rfl, (two_of_a h2 h3 h4 h6 h7 h9 (Nat.le_refl _) hto).more (by omega)⟩⟩
  · have hr1 : (s.size : Int) ≤ roomR ma := Int.not_lt.1 fun hx => hr (.inr hx)
    have hrm := h8.row.room_eq
    refine (k_append h1 h8 hn s (fun hx => hr (.inl hx)) hr1).mono ?_
    rintro e w' ⟨rfl, hto⟩
    rw [h5] at hto
    have e1 : A.data.toList ++ s.data.toList = (A ++ s).data.toList := by rw [ByteArray.data_append, Array.toList_append]
    rw [e1] at hto
    refine ⟨_, _, rfl, .inl ⟨rfl, ?_, by omega, two_of_a h2 h3 h4 h6 h7 h9 (by omega) hto⟩⟩
    rw [size_toList]
    omega
/-- A call on the second row: whatever it answers. -/
def TwoB (w0 : World) (a b d n : Nat) (A : ByteArray) (e : Ending) (w' : World) : Prop := ∃ v, e = .returned v ∧ Two w0 w' a b d (n + 2) A
theorem two_append_b {w0 w : World} {a b d n : Nat} {A : ByteArray} (h : Two w0 w a b d n A) (hn : n ≤ 200) (s : ByteArray) (hs : s.size ≤ maxLen) :
    Calls Tryz.prog 12 #[.pointer (some ⟨b, 0, none⟩), .string s] w (TwoB w0 a b d n A) := by
  obtain ⟨g, st, ma, mb, ja, ib, jb, allb, h1, h2, h3, h4, h5, h6, h7, h8, h9⟩ := h
  have hse := h9.row.end_
  by_cases hr : s.size = 0 ∨ roomR mb < s.size
  · refine (k_append_bad2 h2 h9 s hr hs).mono ?_
    rintro e w' ⟨rfl, hto⟩
    rw [h6] at hto
    exact ⟨_, rfl, (two_of_b h1 h3 h4 h5 h8 (Nat.le_refl _) hto (by omega)).more (by omega)⟩
  · have hr1 : (s.size : Int) ≤ roomR mb := Int.not_lt.1 fun hx => hr (.inr hx)
    refine (k_append h2 h9 hn s (fun hx => hr (.inl hx)) hr1).mono ?_
    rintro e w' ⟨rfl, hto⟩
    rw [h6] at hto
    exact ⟨_, rfl, two_of_b h1 h3 h4 h5 h8 (by omega) hto (by rw [List.length_append]; omega)⟩
theorem two_sync_b {w0 w : World} {a b d n : Nat} {A : ByteArray} (h : Two w0 w a b d n A) (hn : n ≤ 200) :
    Calls Tryz.prog 14 #[.pointer (some ⟨b, 0, none⟩)] w (TwoB w0 a b d n A) := by
  obtain ⟨g, st, ma, mb, ja, ib, jb, allb, h1, h2, h3, h4, h5, h6, h7, h8, h9⟩ := h
  refine (k_sync h2 h9 (by omega)).mono ?_
  rintro e w' ⟨rfl, hto⟩
  rw [h6] at hto
  exact ⟨_, rfl, (two_of_b h1 h3 h4 h5 h8 (Nat.le_refl _) hto (Int.le_refl _)).more (by omega)⟩
theorem two_cut_b {w0 w : World} {a b d n : Nat} {A : ByteArray} (h : Two w0 w a b d n A) (hn : n ≤ 200) (x : Int) :
    Calls Tryz.prog 15 #[.pointer (some ⟨b, 0, none⟩), .int .i64 x] w (TwoB w0 a b d n A) := by
  obtain ⟨g, st, ma, mb, ja, ib, jb, allb, h1, h2, h3, h4, h5, h6, h7, h8, h9⟩ := h
  have hse := h9.row.end_
  by_cases hx : x < ((20 * ib : Nat) : Int) ∨ ((20 * ib + allb.length : Nat) : Int) < x
  · refine (k_cut_bad h2 h9 x hx).mono ?_
    rintro e w' ⟨rfl, hto⟩
    rw [h6] at hto
    exact ⟨_, rfl, (two_of_b h1 h3 h4 h5 h8 (Nat.le_refl _) hto (by omega)).more (by omega)⟩
  · obtain ⟨y, rfl⟩ : ∃ y : Nat, x = (y : Int) := ⟨x.toNat, by omega⟩
    refine (k_cut h2 h9 (by omega) y (by omega) (by omega) h7).mono ?_
    rintro e w' ⟨rfl, j', _, _, hto⟩
    rw [h6] at hto
    exact ⟨_, rfl, (two_of_b h1 h3 h4 h5 h8 (Nat.le_refl _) hto (by rw [List.length_take]; omega)).more (by omega)⟩
theorem two_drop_b {w0 w : World} {a b d n : Nat} {A : ByteArray} (h : Two w0 w a b d n A) (hn : n ≤ 200) :
    Calls Tryz.prog 16 #[.pointer (some ⟨b, 0, none⟩)] w (TwoB w0 a b d n A) := by
  obtain ⟨g, st, ma, mb, ja, ib, jb, allb, h1, h2, h3, h4, h5, h6, h7, h8, h9⟩ := h
  have hse := h9.row.end_
  by_cases hij : ib + 1 < jb
  · refine (k_drop h2 h9 (by omega) hij).mono ?_
    rintro e w' ⟨rfl, hto⟩
    rw [h6] at hto
    have ht := h9.tight hij
    have hle : 20 * (ib + 1) ≤ 20 * (jb - 1) := Nat.mul_le_mul_left 20 (by omega)
    exact ⟨_, rfl, (two_of_b h1 h3 h4 h5 h8 (Nat.le_refl _) hto (by rw [List.length_drop]; omega)).more (by omega)⟩
  · refine (k_drop_few h2 h9 (by omega)).mono ?_
    rintro e w' ⟨rfl, hto⟩
    rw [h6] at hto
    exact ⟨_, rfl, (two_of_b h1 h3 h4 h5 h8 (Nat.le_refl _) hto (by omega)).more (by omega)⟩
/-- The second row, opened anew. -/
def TwoO (w0 : World) (a d n : Nat) (A : ByteArray) (e : Ending) (w' : World) : Prop := ∃ b, e = .returned (.tuple #[.pointer (some ⟨b, 0, none⟩), .int .i64 0]) ∧ Two w0 w' a b d (n + 2) A
theorem two_open_b {w0 w : World} {a b d n : Nat} {A : ByteArray} (h : Two w0 w a b d n A) (hn : n ≤ 200) :
    Calls Tryz.prog 10 #[.pointer (some ⟨d, 0, none⟩), .string bH, .int .i64 20] w (TwoO w0 a d n A) := by
  obtain ⟨g, st, ma, mb, ja, ib, jb, allb, h1, h2, h3, h4, h5, h6, h7, h8, h9⟩ := h
  have hc := k_open (DiskG.of h2 h3) h2.tab0 h9 (by omega)
  rw [h6] at hc
  refine hc.mono ?_
  rintro e w' ⟨b', rfl, hb', g', m', hg', hto, hh', hs', hk'⟩
  have ho := h1.op hg'.disk hto
  have hlt := h1.row.lt
  exact ⟨b', rfl, g', st, ma, m', ja, ib, jb, allb, ho.1, hg', hto.d.trans h3, by omega, h5, hh', by rw [hs', hk'.row.end_]; omega, h8.more (by omega), hk'.more (by omega)⟩
/-- The first row, opened anew, at the end. -/
def TwoE (w0 : World) (d : Nat) (A : ByteArray) (e : Ending) (w' : World) : Prop := ∃ b, e = .returned (.tuple #[.pointer (some ⟨b, 0, none⟩), .int .i64 0]) ∧ Chg (fun _ => False) w0 w' ∧ ∃ d' m, RowAt w' b d' m ∧ m.begin_ = 0 ∧ m.end_ = (A.size : Int)
theorem two_open_a {w0 w : World} {a b d n : Nat} {A : ByteArray} (h : Two w0 w a b d n A) (hn : n ≤ 300) :
    Calls Tryz.prog 10 #[.pointer (some ⟨d, 0, none⟩), .string aH, .int .i64 16] w (TwoE w0 d A) := by
  obtain ⟨g, st, ma, mb, ja, ib, jb, allb, h1, h2, h3, h4, h5, h6, h7, h8, h9⟩ := h
  have hc := k_open (DiskG.of h1 h3) h1.tab0 h8 (by omega)
  rw [h5] at hc
  refine hc.mono ?_
  rintro e w' ⟨b', rfl, hb', g', m', hg', hto, hh', hs', hk'⟩
  refine ⟨b', rfl, hg'.chg, g'.d, m', hg'.row, ?_, ?_⟩
  · rw [hk'.row.beg]; omega
  · rw [hk'.row.end_, size_toList]; omega
theorem two_begin {w0 w : World} {a b d n : Nat} {A : ByteArray} (h : Two w0 w a b d n A) : Calls Tryz.prog 18 #[.pointer (some ⟨a, 0, none⟩)] w fun e w' => e = .returned (.int .i64 0) ∧ w = w' := by
  obtain ⟨g, st, ma, mb, ja, ib, jb, allb, h1, h2, h3, h4, h5, h6, h7, h8, h9⟩ := h
  have := rbegin_any a g.d ma w h1.row
  rw [show ma.begin_ = 0 by rw [h8.row.beg]; omega] at this
  exact this
theorem two_end {w0 w : World} {a b d n : Nat} {A : ByteArray} (h : Two w0 w a b d n A) : Calls Tryz.prog 19 #[.pointer (some ⟨a, 0, none⟩)] w fun e w' => e = .returned (.int .i64 A.size) ∧ w = w' := by
  obtain ⟨g, st, ma, mb, ja, ib, jb, allb, h1, h2, h3, h4, h5, h6, h7, h8, h9⟩ := h
  have := rend_any a g.d ma w h1.row
  rw [show ma.end_ = (A.size : Int) by rw [h8.row.end_, size_toList]; omega] at this
  exact this
theorem Two.chg {w0 w : World} {a b d n : Nat} {A : ByteArray} (h : Two w0 w a b d n A) : Chg (fun _ => False) w0 w := by
  obtain ⟨g, st, ma, mb, ja, ib, jb, allb, h1, _⟩ := h
  exact h1.chg
theorem Two.small {w0 w : World} {a b d n : Nat} {A : ByteArray} (h : Two w0 w a b d n A) : A.size ≤ 4096 * n := by
  obtain ⟨g, st, ma, mb, ja, ib, jb, allb, h1, h2, h3, h4, h5, h6, h7, h8, h9⟩ := h
  have := h8.en
  rw [size_toList] at this
  omega
/-- A new row, of a new disk. -/
theorem newK {head : ByteArray} {z : Nat} {st : St} {n : Nat} (hh : head.size ≤ 100) (h1 : 16 ≤ z) (h2 : z ≤ 4096) (hc : Calm n st) (hcap : st.cap = 1048576) (hsz : st.size ≤ 4096 * n) (hnm : ∀ p ∈ st.fs, p.1.size ≤ 1048576) (hno : ∀ nm ∈ st.fs.map (·.1), Lib.hasPrefix nm.data.toList head.data.toList = false) : RowK n (newRow head z) st z 0 0 [] := by
  have hm : (newRow head (z : Int)).head = head := rfl
  refine ⟨⟨hc, hh, rfl, h1, h2, ?_, ?_, ?_, Nat.le_refl _, by omega, by omega, by simp, by simp, fun nm => ?_, fun i a b => by omega, fun _ => rfl, ⟨0, ?_, Nat.le_refl _, by omega⟩⟩, fun i a b => by omega, fun hx => by omega, hcap, hsz, by simp, hnm⟩
  · show (0 : Int) = _; simp
  · show (0 : Int) = _; simp
  · show (0 : Int) = _; simp
  · rw [hm, plS_done _ _ _ (by omega)]
    constructor
    · rintro ⟨a, b⟩
      rw [hno nm a] at b
      cases b
    · rintro ⟨p, hp, _⟩
      cases hp
  · show (0 : Int) = _; simp
end Go.Proofs.YtgephceihkkokaaGreatDoor
