/-
  Part 27: what the statement needs of these texts: UOct, UTake, UOpen, UAdd, UOk, UAwk, UCln.
-/
import Derived.BigQuiet
import Derived.Deep.AppendLies
import Derived.Deep.AppendSrc
import Derived.Deep.DeepCutAuto
import Derived.Deep.DeepMust
import Derived.Deep.OwnRows
import Derived.Deep.QuietTactic
import Derived.Deep.RegionHeld3
import Derived.Deep.RegionLaw
import Derived.IntWalk
import Derived.Laws.BitsAllLaws
import Derived.Laws.CopyOwn
import Derived.Laws.OwnMore
import Derived.Laws.PanicsMore
import Derived.Laws.Rows
import Derived.Laws.StructEq
import Derived.Lib.AppendStr
import Derived.Lib.AppendZerosOnto
import Derived.Lib.BufferRead
import Derived.Lib.BufferWrite
import Derived.Lib.Hide
import Derived.Lib.OthersKept
import Derived.Maps.AppendAt
import Derived.Maps.OwnSet
import Derived.Maps.RangeWalk
import Derived.Orders
import Derived.ProofKit
import Derived.Shelf.Slices.In.SortNone
import Derived.Shelf.Sort.Plain
import Derived.Shelf.Strings.Prefix
import Derived.Sort.OwnSorted
import Derived.StillTailTactics
import Derived.StringKeys
import Derived.Test.YtcdoicndpecfiaaProg
import Derived.Test.YtcdoicndpecfiaaRows
import Derived.WalkKit
import Derived.WalkLawsBesides
import Derived.WalkSmall
import Derived.WalkSpells
import Derived.Test.YtcdoicndpecfiaaUt1
import Derived.Test.YtcdoicndpecfiaaUt2
import Derived.Test.YtcdoicndpecfiaaUt3
import Derived.Test.YtcdoicndpecfiaaUt4
import Derived.Test.YtcdoicndpecfiaaUt5
import Derived.Test.YtcdoicndpecfiaaUt6
import Derived.Test.YtcdoicndpecfiaaUt7
import Derived.Test.YtcdoicndpecfiaaUt8
import Derived.Test.YtcdoicndpecfiaaUt9
import Derived.Test.YtcdoicndpecfiaaUt10
import Derived.Test.YtcdoicndpecfiaaUt11
import Derived.Test.YtcdoicndpecfiaaUt12
import Derived.Test.YtcdoicndpecfiaaUt13
import Derived.Test.YtcdoicndpecfiaaUt14
import Derived.Test.YtcdoicndpecfiaaUt15
import Derived.Test.YtcdoicndpecfiaaUt16
import Derived.Test.YtcdoicndpecfiaaUt17
import Derived.Test.YtcdoicndpecfiaaUt18
import Derived.Test.YtcdoicndpecfiaaUt19
import Derived.Test.YtcdoicndpecfiaaUt20
import Derived.Test.YtcdoicndpecfiaaUt21
import Derived.Test.YtcdoicndpecfiaaUt22
import Derived.Test.YtcdoicndpecfiaaUt23
import Derived.Test.YtcdoicndpecfiaaUt24
import Derived.Test.YtcdoicndpecfiaaUt25
import Derived.Test.YtcdoicndpecfiaaUt26
namespace Go.Proofs.Ytcdoicndpecfiaa
open Go.RowKit Go.Deep
set_option linter.unusedVariables false
set_option linter.unusedSimpArgs false

def topB (t : ByteArray × Int) : List UInt8 := Oc.txtB t.1 ++ Oc.numB 1 t.2.toNat
def bytesT (l : TL) : List UInt8 := Oc.numB 1 l.length ++ l.flatMap topB
theorem unum_one {N : Int} (h0 : 0 ≤ N) (h1 : N ≤ 255) (w : World) :
    Calls Try.prog 57 #[.int .i64 1, .slice (some ⟨w.heap.size, 0, none⟩) 1 1] (w.alloc (.cells #[.int .i64 N] 3)) fun e w' => e = .returned (.tuple #[.string ⟨(Oc.numB 1 N.toNat).toArray⟩, .int .i64 0]) ∧ Below w.heap.size w w' := by
  have hI : Oc.Ints (w.alloc (.cells #[.int .i64 N] 3)) (.slice (some ⟨w.heap.size, 0, none⟩) 1 1) [N] := ⟨_, _, rfl, .inr ⟨w.heap.size, 0, rfl, fun i hi => by
    obtain rfl : i = 0 := by simp at hi; exact hi
    simp [go_sem]⟩⟩
  have h := Oc.numS_ok 1 _ [N] _ (by decide) (by decide) (by show 1 ≤ 1000000; decide) hI (fun x hx => by
    rw [List.mem_singleton.1 hx]; exact ⟨h0, by rw [show ((256 : Int) ^ 1) = 256 from rfl]; omega⟩)
  have e : Oc.numsB 1 [N] = Oc.numB 1 N.toNat := by unfold Oc.numsB; simp
  rw [e] at h
  refine h.mono ?_
  rintro en w' ⟨he, hb⟩
  exact ⟨he, ubelow_on hb ((Below.refl _ _).alloc (Nat.le_refl _) _) (Nat.le_refl _)⟩
theorem utext_one (t : ByteArray) (ht : t.size ≤ 65535) (w : World) :
    Calls Try.prog 58 #[.slice (some ⟨w.heap.size, 0, none⟩) 1 1] (w.alloc (.cells #[.string t] 9)) fun e w' => e = .returned (.tuple #[.string ⟨(Oc.txtB t).toArray⟩, .int .i64 0]) ∧ Below w.heap.size w w' := by
  have hI : Oc.Strs (w.alloc (.cells #[.string t] 9)) 0 (.slice (some ⟨w.heap.size, 0, none⟩) 1 1) [t] := ⟨some ⟨w.heap.size, 0, none⟩, 1, rfl, .inr ⟨_, _, rfl, Nat.zero_le _, fun i hi => by
    obtain rfl : i = 0 := by simp at hi; exact hi
    simp⟩⟩
  have h := Oc.textW_ok _ [t] _ (by show 1 ≤ 1000; decide) (fun x hx => by rw [List.mem_singleton.1 hx]; exact ht) hI
  have e : [t].flatMap Oc.txtB = Oc.txtB t := by simp
  rw [e] at h
  refine h.mono ?_
  rintro en w' ⟨he, hb⟩
  exact ⟨he, ubelow_on hb ((Below.refl _ _).alloc (Nat.le_refl _) _) (Nat.le_refl _)⟩
theorem topB_len (t : ByteArray × Int) : (topB t).length = t.1.size + 3 := by
  unfold topB
  rw [List.length_append, Oc.txtB_length, Oc.numB_length]
  omega
theorem flat_len (l : TL) (h : ∀ t ∈ l, t.1.size ≤ 1000) : (l.flatMap topB).length ≤ 1003 * l.length := by
  induction l with
  | nil => simp
  | cons x l ih =>
    rw [List.flatMap_cons, List.length_append, topB_len, List.length_cons]
    have := h x (List.mem_cons_self ..)
    have := ih fun t ht => h t (List.mem_cons_of_mem _ ht)
    omega
theorem bytes_snoc (l : TL) (k : Nat) (x : ByteArray × Int) (hx : l[k]? = some x) : (l.take (k + 1)).flatMap topB = (l.take k).flatMap topB ++ topB x := by
  have hk := (List.getElem?_eq_some_iff.1 hx).1
  rw [List.take_succ_eq_append_getElem hk, List.flatMap_append]
  have : l[k] = x := (List.getElem?_eq_some_iff.1 hx).2
  rw [this]
  simp
theorem ba_size (l : List UInt8) : (⟨l.toArray⟩ : ByteArray).size = l.length := by show l.toArray.size = _; simp
theorem ba_add (a b : List UInt8) : (⟨a.toArray⟩ : ByteArray) ++ ⟨b.toArray⟩ = ⟨(a ++ b).toArray⟩ := append_toArray a b
set_option maxHeartbeats 2000000 in
set_option maxRecDepth 100000 in
theorem octets_any (v : Value) (l : TL) (w : World) (h : TRow w v l) (hl : l.length ≤ 255) (hs : ∀ t ∈ l, t.1.size ≤ 1000 ∧ 0 ≤ t.2 ∧ t.2 ≤ 255) :
    Calls Try.prog 24 #[v] w fun e w' => e = .returned (.string ⟨(bytesT l).toArray⟩) ∧ Below w.heap.size w w' := by
  have hrow : ∀ w', Below w.heap.size w w' → TRow w' v l := fun w' hb => h.new hb
  obtain ⟨a, cap, rfl⟩ := h.len
  have hlen := flat_len l (fun t ht => (hs t ht).1)
  obtain ⟨n, hn⟩ : ∃ n, n = l.length := ⟨_, rfl⟩
  rw [← hn] at hrow hl hlen ⊢
  obtain ⟨b0, hb0⟩ : ∃ b0 : ByteArray, b0 = ⟨(Oc.numB 1 n).toArray⟩ := ⟨_, rfl⟩
  have hN := unum_one (N := (n : Int)) (by omega) (by omega) w
  rw [Int.toNat_natCast, ← hb0] at hN
  have HN1 := Lib.hid hN
  have HROW := Lib.hid hrow
  have HS := Lib.hid hs
  have HN := Lib.hid hn
  have HB0 := Lib.hid hb0
  have hfl : ∀ k, ((l.take k).flatMap topB).length ≤ 1003 * 255 := fun k => by
    have := flat_len (l.take k) (fun t ht => (hs t (List.mem_of_mem_take ht)).1)
    have : (l.take k).length ≤ l.length := by rw [List.length_take]; omega
    omega
  have HFL := Lib.hid hfl
  clear hN hrow hs hn hb0 h hlen hfl
  go_enter Try.func24, Try.ntmps24
  go_wp2_with fail
  refine HN1.out.mono ?_
  rintro e w1 ⟨rfl, hb1⟩
  have HB1 := Lib.hid hb1
  clear hb1
  go_wp2_with fail
  go_loopw [3, 20] (fun sv i wr => ∃ k : Nat, k ≤ n ∧ i = .int .i64 (k : Int) ∧ (∃ sk : ByteArray, sv = .string sk ∧ Hid (sk = ⟨(Oc.numB 1 n ++ (l.take k).flatMap topB).toArray⟩)) ∧ Hid (Below w.heap.size w wr)) (fun _ i _ => n - (intOf i).toNat)
  case atStart => exact ⟨0, Nat.zero_le _, rfl, ⟨b0, rfl, Lib.hid (by rw [HB0.out]; simp)⟩, HB1⟩
  case round =>
    obtain ⟨k, hk, rfl, ⟨sk, rfl, HSK⟩, HB⟩ := hrel
    by_cases hlt : k < n
    · obtain ⟨x, hx⟩ : ∃ x, l[k]? = some x := ⟨_, List.getElem?_eq_getElem (by rw [← HN.out]; exact hlt)⟩
      obtain ⟨g, rfl, c0, c1⟩ : ∃ g, a = some ⟨g, 0, none⟩ ∧ wr.cell? ⟨g, k * 2, none⟩ = some (.string x.1) ∧ wr.cell? ⟨g, k * 2 + 1, none⟩ = some (.int .i64 x.2) := by
        rcases (HROW.out wr HB.out).form with ⟨_, e⟩ | ⟨g, c, e, _, _, _, hc⟩
        · rw [e] at hx; cases hx
        · injection e with e1
          exact ⟨g, e1, hc k x hx⟩
      have hxm : x ∈ l := List.mem_of_getElem? hx
      obtain ⟨z1, z2, z3⟩ := HS.out x hxm
      have hsn := bytes_snoc l k x hx
      obtain ⟨x1, x2⟩ := x
      simp only at c0 c1 z1 z2 z3
      have hT := fun W => utext_one x1 (by omega) W
      have hQ := fun W => unum_one (N := x2) z2 z3 W
      obtain ⟨bt, hbt⟩ : ∃ bt : ByteArray, bt = ⟨(Oc.txtB x1).toArray⟩ := ⟨_, rfl⟩
      obtain ⟨bq, hbq⟩ : ∃ bq : ByteArray, bq = ⟨(Oc.numB 1 x2.toNat).toArray⟩ := ⟨_, rfl⟩
      have l1 : bt.size ≤ 2000 := by rw [hbt, ba_size, Oc.txtB_length]; omega
      have l2 : bq.size ≤ 2000 := by rw [hbq, ba_size, Oc.numB_length]; omega
      have l3 : sk.size ≤ 1000000 := by rw [HSK.out, ba_size, List.length_append, Oc.numB_length]; have := HFL.out k; omega
      have hnext : sk ++ (bt ++ bq) = ⟨(Oc.numB 1 n ++ (l.take (k + 1)).flatMap topB).toArray⟩ := by
        rw [HSK.out, hbt, hbq, ba_add, ba_add, hsn, List.append_assoc]
        rfl
      obtain ⟨b12, hb12⟩ : ∃ b12, b12 = bt ++ bq := ⟨_, rfl⟩
      have l4 : b12.size ≤ 4000 := by rw [hb12, ByteArray.size_append]; omega
      have hadd1 : ∀ W, (Op.stringOp .add bt bq).run Try.prog W = .ok (.string b12) W := fun W => by rw [run_string_add W _ _ (by omega) (by omega), hb12]
      rw [← hb12] at hnext
      obtain ⟨sn, hsnn⟩ : ∃ sn, sn = sk ++ b12 := ⟨_, rfl⟩
      have hadd2 : ∀ W, (Op.stringOp .add sk b12).run Try.prog W = .ok (.string sn) W := fun W => by rw [run_string_add W _ _ (by omega) (by omega), hsnn]
      rw [← hsnn] at hnext
      rw [← hbt] at hT
      rw [← hbq] at hQ
      obtain ⟨w2, hw2⟩ : ∃ w2, w2 = wr.alloc (.cells #[.string x1, .int .i64 x2] 31) := ⟨_, rfl⟩
      have hb2 : Below w.heap.size w w2 := by rw [hw2]; exact HB.out.alloc HB.out.size _
      have hbr : Below wr.heap.size wr w2 := by rw [hw2]; exact (Below.refl _ _).alloc (Nat.le_refl _) _
      have d0 : w2.cell? ⟨wr.heap.size, 0, none⟩ = some (.string x1) := by rw [hw2]; simp [go_sem]
      have d1 : w2.cell? ⟨wr.heap.size, 1, none⟩ = some (.int .i64 x2) := by rw [hw2]; simp [go_sem]
      have HT := Lib.hid hT
      have HQ := Lib.hid hQ
      have HNX := Lib.hid hnext
      have HW2 := Lib.hid hw2
      have HB2 := Lib.hid hb2
      have D1 : Hid (∀ W, Below w2.heap.size w2 W → W.cell? ⟨wr.heap.size, 1, none⟩ = some (.int .i64 x2)) := Lib.hid (fun W hW => ukeep hW d1)
      clear hT hQ hnext hw2 hb2 hbr hsn hxm hx hbt hbq hb12 hsnn z1 z2 z3 d1
      go_upto_region 5 with fail
      rw [← HW2.out]
      go_wp2_with fail
      refine (HT.out _).mono ?_
      rintro e w3 ⟨rfl, hb3⟩
      have e1 := D1.out w3 hb3
      have HB3 := Lib.hid (ubelow_on hb3 HB2.out (Nat.le_refl _))
      clear hb3
      go_wp2_with fail
      refine (HQ.out _).mono ?_
      rintro e w4 ⟨rfl, hb4⟩
      have HB4 := Lib.hid (ubelow_on hb4 HB3.out (Nat.le_refl _))
      clear hb4
      go_wp2_with fail
      exact ⟨⟨k + 1, by omega, by go_num, ⟨sn, rfl, HNX⟩, HB4⟩, by simp [intOf]; omega⟩
    · have hkn : k = n := by omega
      have HKN := Lib.hid hkn
      clear hkn
      go_wp2_with fail
      go_ret
      have e0 : sk = ⟨(bytesT l).toArray⟩ := by
        rw [HSK.out, HKN.out, HN.out, List.take_length]
        rfl
      rw [e0]
      exact ⟨rfl, HB.out⟩
end Go.Proofs.Ytcdoicndpecfiaa

namespace Go.Proofs.Ytcdoicndpecfiaa
open Go.RowKit Go.Deep
set_option linter.unusedVariables false
set_option linter.unusedSimpArgs false
attribute [local go_sem] fr_opt

def tkS (s : ByteArray) (x : Int) : ByteArray × ByteArray × Int := if x = 0 then ((Oc.textS s 16).1, Oc.goS s (Oc.textS s 16).2.1 (Oc.textS s 16).2.2, (Oc.textS s 16).2.2) else (⟨#[]⟩, s, x)
def nkS (s : ByteArray) (x : Int) : Nat × ByteArray × Int := if x = 0 then ((Oc.numS s 1).1, Oc.goS s (Oc.numS s 1).2.1 (Oc.numS s 1).2.2, (Oc.numS s 1).2.2) else (0, s, x)
theorem rtext_any (b : Nat) (s : ByteArray) (x : Int) (w : World) (h : Oc.Rd w b s x) :
    Calls Try.prog 54 #[.pointer (some ⟨b, 0, none⟩), .int .i64 16] w fun e w' => e = .returned (.string (tkS s x).1) ∧ Oc.Rd w' b (tkS s x).2.1 (tkS s x).2.2 ∧ w.grownBy w' (some b) := by
  by_cases hx : x = 0
  · subst hx
    have := Oc.text_any b s 16 w h (t := (Oc.textS s 16).1) (rest := (Oc.textS s 16).2.1) (x := (Oc.textS s 16).2.2) rfl
    unfold tkS
    rw [if_pos rfl]
    exact this
  · unfold tkS
    rw [if_neg hx]
    refine (Oc.text_none b s 16 x w h hx).mono ?_
    rintro e w' ⟨he, hw⟩
    subst hw
    exact ⟨he, h, Oc.grownBy_refl _ _⟩
theorem rnum_any (b : Nat) (s : ByteArray) (x : Int) (w : World) (h : Oc.Rd w b s x) :
    Calls Try.prog 53 #[.pointer (some ⟨b, 0, none⟩), .int .i64 1] w fun e w' => e = .returned (.int .i64 (nkS s x).1) ∧ Oc.Rd w' b (nkS s x).2.1 (nkS s x).2.2 ∧ w.grownBy w' (some b) := by
  by_cases hx : x = 0
  · subst hx
    have := Oc.num_any b s 1 w h (v := (Oc.numS s 1).1) (rest := (Oc.numS s 1).2.1) (x := (Oc.numS s 1).2.2) rfl
    unfold nkS
    rw [if_pos rfl]
    exact this
  · unfold nkS
    rw [if_neg hx]
    refine (Oc.num_none b s 1 x w h hx).mono ?_
    rintro e w' ⟨he, hw⟩
    subst hw
    exact ⟨he, h, Oc.grownBy_refl _ _⟩
/-- What take takes in; none: no table. -/
def takeL : Nat → ByteArray → Int → TL → Option (TL × ByteArray × Int)
  | 0, s, x, l => some (l, s, x)
  | k + 1, s, x, l => if refE l (tkS s x).1 (nkS (tkS s x).2.1 (tkS s x).2.2).1 = 0 then takeL k (nkS (tkS s x).2.1 (tkS s x).2.2).2.1 (nkS (tkS s x).2.1 (tkS s x).2.2).2.2 (l ++ [((tkS s x).1, ((nkS (tkS s x).2.1 (tkS s x).2.2).1 : Int))]) else none
def takeR (s : ByteArray) : Option TL := match takeL (nkS s 0).1 (nkS s 0).2.1 (nkS s 0).2.2 [] with
  | some (l, s', x') => if Oc.endE s' x' = 0 then some l else none
  | none => none
theorem refE_zero {l : TL} {nm : ByteArray} {q : Int} (h : refE l nm q = 0) : plainB nm = true ∧ 1 ≤ q ∧ q ≤ 3 ∧ (∀ t ∈ l, t.1 ≠ nm) ∧ l.length < 6 := by
  unfold refE at h
  split at h
  · rename_i hp
    split at h
    · cases h
    · rename_i hq
      split at h
      · cases h
      · rename_i hi
        split at h
        · cases h
        · rename_i h6
          refine ⟨hp, by omega, by omega, ?_, by omega⟩
          rcases placeI_spec l nm with ⟨_, h2⟩ | ⟨j, x, h1, _⟩
          · exact h2
          · rw [h1] at hi; omega
  · cases h
theorem cutS_le (s : ByteArray) (n : Nat) : (Oc.cutS s n).1.size ≤ n := by
  unfold Oc.cutS
  rw [if_neg (by omega)]
  split
  · exact Nat.zero_le _
  · show (s.extract 0 (n : Int).toNat).size ≤ n
    rw [ByteArray.size_extract]
    omega
theorem tkS_size (s : ByteArray) (x : Int) : (tkS s x).1.size ≤ 16 := by
  unfold tkS
  split
  · show (Oc.textS s 16).1.size ≤ 16
    unfold Oc.textS
    split
    · split
      · exact Nat.zero_le _
      · have := cutS_le (Oc.numS s 2).2.1 (Oc.numS s 2).1
        omega
    · exact Nat.zero_le _
  · exact Nat.zero_le _
theorem nkS_lt (s : ByteArray) (x : Int) : (nkS s x).1 < 256 := by
  unfold nkS
  split
  · show (Oc.numS s 1).1 < 256
    unfold Oc.numS
    rw [if_pos (by decide)]
    split
    · rename_i hx
      obtain ⟨⟨t, r⟩, hc⟩ : ∃ p : ByteArray × ByteArray, Oc.cutS s 1 = (p.1, p.2, 0) := by
        rcases hq : Oc.cutS s 1 with ⟨t, r, y⟩
        rw [hq] at hx
        simp only at hx
        exact ⟨(t, r), by rw [hx]⟩
      have hsz : (t.size : Int) = 1 := Oc.cutS_size hc
      show Oc.getN (Oc.cutS s 1).1.data.toList < 256
      rw [hc]
      have h1 := Oc.getN_lt t.data.toList
      have : t.data.toList.length = 1 := by rw [text_len]; omega
      rw [this] at h1
      simpa using h1
    · show 0 < 256
      decide
  · show 0 < 256
    decide

theorem TRow.apart {w : World} {v : Value} {l : TL} (h : TRow w v l) {b : Nat} {c : Array Value} {t : TypeId} {fr : Nat × Nat} (hb : w.heap[b]? = some (.cells c t fr)) (ht : t ≠ 31) : ∀ g, v.ownBlock = some g → g ≠ b := by
  intro g hg he
  subst he
  rcases h.2 with ⟨e, _⟩ | ⟨g2, cap, cur, e, _, hg2, _⟩
  · rw [e] at hg; cases hg
  · rw [e] at hg
    injection hg with hg
    subst hg
    rw [hb] at hg2
    injection hg2 with hg2
    injection hg2 with _ h2
    exact ht h2
def TblAt (w : World) (tb : Nat) (p v : Value) : Prop := w.heap[tb]? = some (.cells #[p, v] 58 (0, 0))
theorem TblAt.c0 {w : World} {tb : Nat} {p v : Value} (h : TblAt w tb p v) : w.cell? ⟨tb, 0, none⟩ = some p := by unfold TblAt at h; simp [World.cell?, h]
theorem TblAt.c1 {w : World} {tb : Nat} {p v : Value} (h : TblAt w tb p v) : w.cell? ⟨tb, 1, none⟩ = some v := by unfold TblAt at h; simp [World.cell?, h]
theorem TblAt.fz {w : World} {tb : Nat} {p v : Value} (h : TblAt w tb p v) (i : Nat) : w.frozen? ⟨tb, i, none⟩ = false := by unfold TblAt at h; simp [World.frozen?, h]
theorem TblAt.chg {S : Nat → Prop} {w w' : World} {tb : Nat} {p v : Value} (h : TblAt w tb p v) (hc : Chg S w w') (hn : ¬ S tb) : TblAt w' tb p v := hc.heap h hn
theorem TblAt.lt {w : World} {tb : Nat} {p v : Value} (h : TblAt w tb p v) : tb < w.heap.size := (Array.getElem?_eq_some_iff.1 h).1
/-- The new list is put into the table. -/
theorem AppT.put {w w1 : World} {v v' : Value} {l : TL} {x : ByteArray × Int} {tb : Nat} {p : Value} (h : AppT w v l x v' w1) (hr : TRow w v l) (ht : TblAt w tb p v) :
    TblAt w1 tb p v ∧ TblAt (w1.setCell ⟨tb, 1, none⟩ v') tb p v' ∧ TRow (w1.setCell ⟨tb, 1, none⟩ v') v' (l ++ [x]) ∧ Chg (fun k => k = tb ∨ v.ownBlock = some k) w (w1.setCell ⟨tb, 1, none⟩ v') := by
  have hne := hr.apart ht (by decide)
  have c1 : Chg (fun k => v.ownBlock = some k) w w1 := Chg.of_grown h.grown (fun k hk _ => hk)
  have t1 : TblAt w1 tb p v := ht.chg c1 (fun e => hne tb e rfl)
  have hne2 := h.row.apart t1 (by decide)
  have c2 : Chg (fun k => k = tb) w1 (w1.setCell ⟨tb, 1, none⟩ v') := Chg.setCell (S := fun k => k = tb) (Chg.refl _ _) (fun _ => rfl) _
  refine ⟨t1, ?_, h.row.chg c2 (fun g hg e => hne2 g hg e), ?_⟩
  · have := heap_setCell_same w1 tb 1 _ _ v' t1
    unfold TblAt
    rw [this]
    rfl
  · exact (c1.wide (S' := fun k => k = tb ∨ v.ownBlock = some k) (fun _ _ e => .inr e)).trans c2 (fun i _ e => .inl e)
theorem Oc_Rd_chg {S : Nat → Prop} {w w' : World} {b : Nat} {s : ByteArray} {x : Int} (h : Oc.Rd w b s x) (hc : Chg S w w') (hn : ¬ S b) : Oc.Rd w' b s x := hc.heap h hn

def TakeTo (w : World) (tb : Nat) (p : Value) (s : ByteArray) (e : Ending) (w' : World) : Prop :=
  e = .returned (.bool (takeR s).isSome) ∧ Chg (fun k => k = tb) w w' ∧ ∃ v l, TblAt w' tb p v ∧ TRow w' v l ∧ (∀ g, v.ownBlock = some g → w.heap.size ≤ g) ∧ ∀ l', takeR s = some l' → l' = l
set_option maxHeartbeats 8000000 in
set_option maxRecDepth 100000 in
theorem take_any (tb : Nat) (p : Value) (s : ByteArray) (w : World) (h : TblAt w tb p (.slice none 0 0)) (hs : s.size ≤ 1000000) :
    Calls Try.prog 22 #[.pointer (some ⟨tb, 0, none⟩), .string s] w (TakeTo w tb p s) := by
  have htl := h.lt
  obtain ⟨rb, hrb⟩ : ∃ rb, rb = w.heap.size := ⟨_, rfl⟩
  obtain ⟨w1, hw1⟩ : ∃ w1, w1 = w.alloc (.cells #[.string s, .int .i64 0] 114) := ⟨_, rfl⟩
  have hb1 : Below w.heap.size w w1 := by rw [hw1]; exact (Below.refl _ _).alloc (Nat.le_refl _) _
  have hr1 : Oc.Rd w1 rb s 0 := by rw [hw1, hrb]; exact heap_alloc_new w _
  have hN := rnum_any rb s 0 w1 hr1
  obtain ⟨c, hc⟩ : ∃ c, c = (nkS s 0).1 := ⟨_, rfl⟩
  obtain ⟨s1, hs1⟩ : ∃ s1, s1 = (nkS s 0).2.1 := ⟨_, rfl⟩
  obtain ⟨x1, hx1⟩ : ∃ x1, x1 = (nkS s 0).2.2 := ⟨_, rfl⟩
  have hclt : c < 256 := by rw [hc]; exact nkS_lt s 0
  rw [← hc, ← hs1, ← hx1] at hN
  have hTR : ∀ r, takeR s = r → r = (match takeL c s1 x1 [] with
    | some (l, s', x') => if Oc.endE s' x' = 0 then some l else none
    | none => none) := fun r hr => by rw [← hr, hc, hs1, hx1]; rfl
  obtain ⟨tr, htr⟩ : ∃ tr, takeR s = tr := ⟨_, rfl⟩
  have hT0 := hTR tr htr
  unfold TakeTo
  rw [htr]
  have hne : rb ≠ tb := by omega
  have hto : ∀ w2, w1.grownBy w2 (some rb) → Chg (fun k => k = tb) w w2 ∧ TblAt w2 tb p (.slice none 0 0) := fun w2 hg => by
    have k1 : Chg (fun k => k = rb) w1 w2 := Chg.of_grown hg (fun k hk _ => by injection hk with hk; exact hk.symm)
    have k2 : Chg (fun _ => False) w w1 := Chg.of_below hb1
    refine ⟨(k2.wide (S' := fun k => k = tb) (fun _ _ e => e.elim)).trans k1 (fun i hi e => by omega), (h.chg k2 (fun e => e)).chg k1 (fun e => hne e.symm)⟩
  have HN := Lib.hid hN
  have HTO := Lib.hid hto
  have HT0 := Lib.hid hT0
  have HW1 := Lib.hid hw1
  have HRB := Lib.hid hrb
  have HRW : Hid (w.heap.size ≤ rb) := Lib.hid (by omega)
  have HTL := Lib.hid htl
  clear hN hto hT0 hw1 hrb htl hb1 hr1 hc hs1 hx1 hTR htr h hs
  go_enter Try.func22, Try.ntmps22
  go_wp2_with fail
  refine (Oc.new_any s w).mono ?_
  rintro e wn ⟨rfl, rfl⟩
  rw [← HW1.out, ← HRB.out]
  go_wp2_with fail
  refine HN.out.mono ?_
  rintro e w2 ⟨rfl, hr2, hg2⟩
  obtain ⟨hc2, ht2⟩ := HTO.out w2 hg2
  have HR2 := Lib.hid hr2
  have HC2 := Lib.hid hc2
  have HT2 := Lib.hid ht2
  clear hr2 hg2 hc2 ht2
  go_wp2_with fail
  go_loopw [11] (fun i wr => ∃ k : Nat, k ≤ c ∧ i = .int .i64 (k : Int) ∧ ∃ sR xR v l, Hid (Oc.Rd wr rb sR xR) ∧ Hid (TblAt wr tb p v) ∧ Hid (TRow wr v l) ∧ Hid (l.length ≤ 6) ∧ Hid (∀ g, v.ownBlock = some g → w.heap.size ≤ g) ∧ Hid (Chg (fun k => k = tb) w wr) ∧ Hid (takeL c s1 x1 [] = takeL (c - k) sR xR l)) (fun i _ => c - (intOf i).toNat)
  case atStart => exact ⟨0, Nat.zero_le _, rfl, s1, x1, .slice none 0 0, [], HR2, HT2, Lib.hid (TRow.nil _), Lib.hid (by decide), Lib.hid (fun g hg => by cases hg), HC2, Lib.hid (by rw [Nat.sub_zero])⟩
  case round =>
    obtain ⟨k, hk, rfl, sR, xR, v, l, HRD, HTB, HROW, HLEN, HOWN, HCHG, HTK⟩ := hrel
    by_cases hlt : k < c
    · obtain ⟨nm, hnm⟩ : ∃ nm, nm = (tkS sR xR).1 := ⟨_, rfl⟩
      obtain ⟨sT, hsT⟩ : ∃ sT, sT = (tkS sR xR).2.1 := ⟨_, rfl⟩
      obtain ⟨xT, hxT⟩ : ∃ xT, xT = (tkS sR xR).2.2 := ⟨_, rfl⟩
      obtain ⟨qn, hqn⟩ : ∃ qn, qn = (nkS sT xT).1 := ⟨_, rfl⟩
      obtain ⟨sN, hsN⟩ : ∃ sN, sN = (nkS sT xT).2.1 := ⟨_, rfl⟩
      obtain ⟨xN, hxN⟩ : ∃ xN, xN = (nkS sT xT).2.2 := ⟨_, rfl⟩
      have hT := rtext_any rb sR xR wr HRD.out
      rw [← hnm, ← hsT, ← hxT] at hT
      have hnms : nm.size ≤ maxLen := by rw [hnm]; have := tkS_size sR xR; unfold maxLen; omega
      have hstep : takeL (c - k) sR xR l = if refE l nm (qn : Int) = 0 then takeL (c - (k + 1)) sN xN (l ++ [(nm, (qn : Int))]) else none := by
        have e : c - k = (c - (k + 1)) + 1 := by omega
        rw [e, hnm, hqn, hsN, hxN, hsT, hxT]
        rfl
      have hNu : ∀ W, Oc.Rd W rb sT xT → Calls Try.prog 53 #[.pointer (some ⟨rb, 0, none⟩), .int .i64 1] W fun e w' => e = .returned (.int .i64 qn) ∧ Oc.Rd w' rb sN xN ∧ W.grownBy w' (some rb) := fun W hW => by
        have := rnum_any rb sT xT W hW
        rw [← hqn, ← hsN, ← hxN] at this
        exact this
      have hsame : ∀ W W', TblAt W tb p v → TRow W v l → Chg (fun k => k = tb) w W → W.grownBy W' (some rb) → Oc.Rd W rb sT xT ∨ Oc.Rd W rb sR xR → TblAt W' tb p v ∧ TRow W' v l ∧ Chg (fun k => k = tb) w W' := fun W W' a1 a2 a3 hg hrd => by
        have k1 : Chg (fun k => k = rb) W W' := Chg.of_grown hg (fun k hk _ => by injection hk with hk; exact hk.symm)
        have hap : ∀ g, v.ownBlock = some g → g ≠ rb := by
          rcases hrd with hrd | hrd
          · exact a2.apart hrd (by decide)
          · exact a2.apart hrd (by decide)
        have := HRW.out
        exact ⟨a1.chg k1 (fun e => hne e.symm), a2.chg k1 hap, a3.trans k1 (fun i hi e => by omega)⟩
      obtain ⟨rz, hrz⟩ : ∃ rz, rz = refE l nm (qn : Int) := ⟨_, rfl⟩
      rw [← hrz] at hstep
      have hRF : ∀ W, TblAt W tb p v → TRow W v l → Calls Try.prog 23 #[.pointer (some ⟨tb, 0, none⟩), .agg #[.string nm, .int .i64 (qn : Int)]] W fun e w' => e = .returned (.int .i64 rz) ∧ Below W.heap.size W w' := fun W a1 a2 => by
        have := refuses_any (v := v) (l := l) nm (qn : Int) (w := W) ⟨a1.c1, a2⟩ (by have := HLEN.out; omega) hnms
        rw [← hrz] at this
        exact this
      have hl6 : rz = 0 → (l ++ [(nm, (qn : Int))]).length ≤ 6 := fun e => by
        have := (refE_zero (hrz.symm.trans e)).2.2.2.2
        simp; omega
      have HT := Lib.hid hT
      have HNU := Lib.hid hNu
      have HSTEP := Lib.hid hstep
      have HSAME := Lib.hid hsame
      have HRF := Lib.hid hRF
      have HL6 := Lib.hid hl6
      clear hT hNu hstep hsame hRF hnm hsT hxT hqn hsN hxN hrz hnms hl6
      go_wp2_with fail
      refine HT.out.mono ?_
      rintro e w3 ⟨rfl, hr3, hg3⟩
      obtain ⟨a1, a2, a3⟩ := HSAME.out wr w3 HTB.out HROW.out HCHG.out hg3 (.inr HRD.out)
      have HR3 := Lib.hid hr3
      have HT3 := Lib.hid a1
      have HW3 := Lib.hid a2
      have HC3 := Lib.hid a3
      clear hr3 hg3 a1 a2 a3
      go_wp2_with fail
      refine (HNU.out w3 HR3.out).mono ?_
      rintro e w4 ⟨rfl, hr4, hg4⟩
      obtain ⟨a1, a2, a3⟩ := HSAME.out w3 w4 HT3.out HW3.out HC3.out hg4 (.inl HR3.out)
      obtain ⟨w5, hw5⟩ : ∃ w5, w5 = w4.alloc (.cells #[.string nm, .int .i64 (qn : Int)] 31) := ⟨_, rfl⟩
      obtain ⟨sb, hsb⟩ : ∃ sb, sb = w4.heap.size := ⟨_, rfl⟩
      have hb5 : Below w4.heap.size w4 w5 := by rw [hw5]; exact (Below.refl _ _).alloc (Nat.le_refl _) _
      have hk5 : Chg (fun _ => False) w4 w5 := Chg.of_below hb5
      have d0 : w5.cell? ⟨sb, 0, none⟩ = some (.string nm) := by rw [hw5, hsb]; simp [go_sem]
      have d1 : w5.cell? ⟨sb, 1, none⟩ = some (.int .i64 (qn : Int)) := by rw [hw5, hsb]; simp [go_sem]
      have HR5 : Hid (Oc.Rd w5 rb sN xN) := Lib.hid (Oc_Rd_chg hr4 hk5 (fun e => e))
      have HT5 : Hid (TblAt w5 tb p v) := Lib.hid (a1.chg hk5 (fun e => e))
      have HW5 : Hid (TRow w5 v l) := Lib.hid (a2.chg hk5 (fun _ _ e => e))
      have HC5 : Hid (Chg (fun k => k = tb) w w5) := Lib.hid (a3.trans hk5 (fun _ _ e => e.elim))
      have HRC := Lib.hid (HRF.out w5 HT5.out HW5.out)
      have HE5 := Lib.hid hw5
      have HSB := Lib.hid hsb
      clear hr4 hg4 a1 a2 a3 hw5 hb5 hk5 hsb
      go_upto_region 5 with fail
      rw [← HE5.out, ← HSB.out]
      go_wp2_with fail
      refine HRC.out.mono ?_
      rintro e w6 ⟨rfl, hb6⟩
      have hk6 : Chg (fun _ => False) w5 w6 := Chg.of_below hb6
      have e0 := ukeep hb6 d0
      have e1 := ukeep hb6 d1
      clear d0 d1
      have hr6 := Oc_Rd_chg HR5.out hk6 (fun e => e)
      have ht6 := HT5.out.chg hk6 (fun e => e)
      have hrow6 := HW5.out.chg hk6 (fun _ _ e => e)
      have hc6 := HC5.out.trans hk6 (fun _ _ e => e.elim)
      have HR6 := Lib.hid hr6
      have HT6 := Lib.hid ht6
      have HW6 := Lib.hid hrow6
      have HC6 := Lib.hid hc6
      clear hb6 hk6 hr6 ht6 hrow6 hc6
      by_cases hz : rz = 0
      · subst hz
        obtain ⟨WA, hWA⟩ : ∃ WA, WA = w6.alloc (.cells #[.string nm, .int .i64 (qn : Int)] 31) := ⟨_, rfl⟩
        have hkA : Chg (fun _ => False) w6 WA := Chg.of_below (by rw [hWA]; exact (Below.refl _ _).alloc (Nat.le_refl _) _)
        have hA0 : WA.cell? ⟨w6.heap.size, 0, none⟩ = some (.string nm) := by rw [hWA]; simp [go_sem]
        have hA1 : WA.cell? ⟨w6.heap.size, 1, none⟩ = some (.int .i64 (qn : Int)) := by rw [hWA]; simp [go_sem]
        have htA := HT6.out.chg hkA (fun e => e)
        have hrA := HW6.out.chg hkA (fun _ _ e => e)
        have hap := fun ty => app_topic (w := WA.drew) (nm, (qn : Int)) (q := w6.heap.size) (c := 1) (show TRow WA.drew v l from hrA) (by have := HLEN.out; omega) hA0 hA1 ty
        have hfin : ∀ v' w7, AppT WA.drew v l (nm, (qn : Int)) v' w7 → TblAt w7 tb p v ∧ Oc.Rd (w7.setCell ⟨tb, 1, none⟩ v') rb sN xN ∧ TblAt (w7.setCell ⟨tb, 1, none⟩ v') tb p v' ∧ TRow (w7.setCell ⟨tb, 1, none⟩ v') v' (l ++ [(nm, (qn : Int))]) ∧ (∀ g, v'.ownBlock = some g → w.heap.size ≤ g) ∧ Chg (fun k => k = tb) w (w7.setCell ⟨tb, 1, none⟩ v') := fun v' w7 ha => by
          obtain ⟨b1, b2, b3, b4⟩ := ha.put (tb := tb) (p := p) hrA htA
          have hrdA : Oc.Rd WA rb sN xN := Oc_Rd_chg HR6.out hkA (fun e => e)
          have hcA : Chg (fun k => k = tb) w WA.drew := (HC6.out.trans hkA (fun _ _ e => e.elim)).drew
          have hsz := hcA.size
          refine ⟨b1, ?_, b2, b3, ?_, ?_⟩
          · refine Oc_Rd_chg (w := WA.drew) hrdA b4 (fun e => ?_)
            rcases e with e | e
            · exact hne e
            · exact hrA.apart hrdA (by decide) rb e rfl
          · intro g hg
            rcases ha.own with e | e
            · exact HOWN.out g (e ▸ hg)
            · rw [e] at hg
              injection hg with hg
              omega
          · refine hcA.trans b4 (fun i hi e => ?_)
            rcases e with e | e
            · exact e
            · have := HOWN.out i e
              omega
        have HAP := Lib.hid hap
        have HFIN := Lib.hid hfin
        have HWA := Lib.hid hWA
        have hc1 := HT6.out.c1
        have hA1' : WA.cell? ⟨tb, 1, none⟩ = some v := htA.c1
        have hfz6 := HT6.out.fz 1
        clear hkA hA0 hA1 htA hrA hap hfin hWA
        obtain ⟨va, vc, hv⟩ : ∃ va vc, v = .slice va l.length vc := HW6.out.len
        have HV := Lib.hid hv
        clear hv
        go_wp2_with fail
        rename_i Kc hc
        refine region_ph (n := 36) 12 [6, 7, 10] rfl rfl (by kernel_rfl) (by kernel_rfl) (by kernel_rfl) (fun i u => match i with | 0 => u = .pointer (some ⟨tb, 0, none⟩) | 1 => u = .pointer (some ⟨tb, 0, none⟩) | 2 => u = .pointer (some ⟨tb, 0, none⟩) | 3 => u = .pointer (some ⟨tb, 1, none⟩) | 4 => u = v | 5 => u = .agg #[.string nm, .int .i64 (qn : Int)] | 6 => u = .slice (some ⟨w6.heap.size, 0, none⟩) 1 1 | 8 => u = .pointer (some ⟨tb, 0, none⟩) | 9 => u = .pointer (some ⟨tb, 1, none⟩) | _ => True)
          (fun p f w' => match p with | 0 => w6.drew = w' | 1 => WA.drew = w' | 2 => AppT WA.drew v l (nm, (qn : Int)) (f 29) w' | _ => ∃ w1 v', AppT WA.drew v l (nm, (qn : Int)) v' w1 ∧ w1.setCell ⟨tb, 1, none⟩ v' = w') ?_ ?_ ?_
        · exact rfl
        · simp only [AllAt]
          refine ⟨?_, ?_, ?_, ?_, ?_, ?_, ?_, ?_, ?_, ?_, ?_, trivial⟩
          · refine StepPh.reg rfl (by decide) (fun d hd => by cases hd; decide) ?_
            intro f w' p hG hup hdn hfr hp K hK
            have g0 : f 0 = .pointer (some ⟨tb, 0, none⟩) := hfr 0 (by kernel_rfl)
            clear hfr hp hup hdn
            go_simp
            exact hK _ _ rfl hG
          · refine StepPh.reg rfl (by decide) (fun d hd => by cases hd; decide) ?_
            intro f w' p hG hup hdn hfr hp K hK
            have g0 : f 0 = .pointer (some ⟨tb, 0, none⟩) := hfr 0 (by kernel_rfl)
            clear hfr hp hup hdn
            go_simp
            exact hK _ _ rfl hG
          · refine StepPh.reg rfl (by decide) (fun d hd => by cases hd; decide) ?_
            intro f w' p hG hup hdn hfr hp K hK
            have g23 : f 23 = .pointer (some ⟨tb, 0, none⟩) := hp 1 _ 23 rfl rfl (by kernel_rfl)
            clear hfr hp hup hdn
            go_simp
            exact hK _ _ rfl hG
          · refine StepPh.reg rfl (by decide) (fun d hd => by cases hd; decide) ?_
            intro f w' p hG hup hdn hfr hp K hK
            have g24 : f 24 = .pointer (some ⟨tb, 0, none⟩) := hp 2 _ 24 rfl rfl (by kernel_rfl)
            clear hfr hp hup hdn
            go_simp
            exact hK _ _ rfl hG
          · refine StepPh.reg rfl (by decide) (fun d hd => by cases hd; decide) ?_
            intro f w' p hG hup hdn hfr hp K hK
            have g25 : f 25 = .pointer (some ⟨tb, 1, none⟩) := hp 3 _ 25 rfl rfl (by kernel_rfl)
            have hpp : p = 0 ∨ p = 1 := by have := hdn 1 (by decide) (.inl (by kernel_rfl)); omega
            clear hfr hp hup hdn
            rcases hpp with rfl | rfl
            · have hGe : w6.drew = w' := hG
              subst hGe
              go_simp
              exact hK _ _ rfl hG
            · have hGe : WA.drew = w' := hG
              subst hGe
              go_simp
              exact hK _ _ rfl hG
          · refine StepPh.reg rfl (by decide) (fun d hd => by cases hd; decide) ?_
            intro f w' p hG hup hdn hfr hp K hK
            have g6 : f 6 = .pointer (some ⟨sb, 0, none⟩) := hfr 6 (by kernel_rfl)
            have hpp : p = 0 := by have := hdn 0 (by decide) (.inl (by kernel_rfl)); omega
            clear hfr hp hup hdn
            subst hpp
            have hGe : w6.drew = w' := hG
            subst hGe
            go_simp
            exact hK _ _ rfl hG
          · refine StepPh.wr 0 rfl (by decide) rfl (fun d hd => by cases hd; decide) (fun j hj => by omega) ?_
            intro f w' hG hfr hp K hK
            have g27 : f 27 = .agg #[.string nm, .int .i64 (qn : Int)] := hp 5 _ 27 rfl rfl (by kernel_rfl)
            clear hfr hp
            have hGe : w6.drew = w' := hG
            subst hGe
            go_simp
            exact hK _ _ (fun _ => rfl) (by show WA.drew = _; rw [HWA.out])
          · refine StepPh.wr 1 rfl (by decide) rfl (fun d hd => by cases hd; decide) (fun j hj => by (obtain rfl : j = 0 := (by omega)); kernel_rfl) ?_
            intro f w' hG hfr hp K hK
            have g26 : f 26 = v := hp 4 _ 26 rfl rfl (by kernel_rfl)
            have g28 : f 28 = .slice (some ⟨w6.heap.size, 0, none⟩) 1 1 := hp 6 _ 28 rfl rfl (by kernel_rfl)
            clear hfr hp
            have hGe : WA.drew = w' := hG
            subst hGe
            obtain ⟨v', w2', hrun, hap⟩ := HAP.out 22
            unfold Oper.wp
            simp [execOp, resolve, invoke, builtin, fr_eval, g26, g28, hrun, Result.andThen]
            exact hK _ _ (fun _ => trivial) hap
          · refine StepPh.reg rfl (by decide) (fun d hd => by cases hd; decide) ?_
            intro f w' p hG hup hdn hfr hp K hK
            have g22 : f 22 = .pointer (some ⟨tb, 0, none⟩) := hp 0 _ 22 rfl rfl (by kernel_rfl)
            clear hfr hp hup hdn
            go_simp
            exact hK _ _ rfl hG
          · refine StepPh.reg rfl (by decide) (fun d hd => by cases hd; decide) ?_
            intro f w' p hG hup hdn hfr hp K hK
            have g30 : f 30 = .pointer (some ⟨tb, 0, none⟩) := hp 8 _ 30 rfl rfl (by kernel_rfl)
            clear hfr hp hup hdn
            go_simp
            exact hK _ _ rfl hG
          · refine StepPh.wr 2 rfl (by decide) rfl (fun d hd => by cases hd) (fun j hj => by rcases (by omega : j = 0 ∨ j = 1) with rfl | rfl <;> kernel_rfl) ?_
            intro f w' hG hfr hp K hK
            have g31 : f 31 = .pointer (some ⟨tb, 1, none⟩) := hp 9 _ 31 rfl rfl (by kernel_rfl)
            clear hfr hp
            have hG1 : AppT WA.drew v l (nm, (qn : Int)) (f 29) w' := hG
            have ht7 := (HFIN.out _ _ hG1).1
            obtain ⟨p', c', g29⟩ := hG1.row.len
            have hcell := ht7.c1
            have hfz := ht7.fz 1
            rw [HV.out] at hcell
            obtain ⟨vn, hvn⟩ : ∃ vn, vn = (l ++ [(nm, (qn : Int))]).length := ⟨_, rfl⟩
            rw [← hvn] at g29
            rw [g29] at hG1
            clear hvn ht7
            go_simp
            exact hK undef _ (fun h => by cases h) ⟨w', _, hG1, by simp⟩
        · intro f w7 hG hfr hR
          refine hc _ _ ?_
          clear hR
          obtain ⟨wp, v', hP, rfl⟩ := hG
          have hback := fr_back (n := 36) (f := f) (D := [22, 23, 24, 25, 26, 27, 28, 29, 30, 31]) rfl (by kernel_rfl) hfr
          rw [hback]
          simp only [mixL, List.elem_eq_contains, List.contains_cons, List.contains_nil, Nat.reduceBEq, Nat.reduceAdd, Bool.or_false, Bool.or_true, Bool.false_or, Bool.true_or, cond_false, cond_true, Bool.or_self, Nat.zero_add]
          clear hback hfr
          have hF := HFIN.out v' wp hP
          have HF := Lib.hid hF
          clear hF
          generalize wp.setCell ⟨tb, 1, none⟩ v' = W9 at *
          go_wp2_with fail
          obtain ⟨_, f1, f2, f3, f4, f5⟩ := HF.out
          exact ⟨⟨k + 1, by omega, by go_num, sN, xN, v', l ++ [(nm, (qn : Int))], Lib.hid f1, Lib.hid f2, Lib.hid f3, Lib.hid (HL6.out (by trivial)), Lib.hid f4, Lib.hid f5, Lib.hid (by rw [HTK.out, HSTEP.out]; simp)⟩, by simp [intOf]; omega⟩
      · have hz2 : (rz != 0) = true := by simpa using hz
        have HZ := Lib.hid hz
        clear hz
        go_wp2_with fail
        go_ret
        have htr0 : tr = none := by rw [HT0.out, HTK.out, HSTEP.out, if_neg HZ.out]
        rw [htr0]
        exact ⟨rfl, HC6.out, v, l, HT6.out, HW6.out, HOWN.out, fun l' h => by cases h⟩
    · have hkn : k = c := by omega
      have htk := HTK.out
      rw [hkn, Nat.sub_self] at htk
      have htr1 : tr = if Oc.endE sR xR = 0 then some l else none := by rw [HT0.out, htk]; rfl
      have hEN := Oc.end_any rb sR xR wr HRD.out
      obtain ⟨ee, hee⟩ : ∃ ee, ee = Oc.endE sR xR := ⟨_, rfl⟩
      rw [← hee] at htr1 hEN
      have HEN := Lib.hid hEN
      clear hkn htk hee hEN
      by_cases he : ee = 0
      · subst he
        rw [if_pos rfl] at htr1
        have HTR := Lib.hid htr1
        clear htr1
        go_wp2_with fail
        refine HEN.out.mono ?_
        rintro e w3 ⟨rfl, rfl⟩
        go_wp2_with fail
        go_ret
        rw [HTR.out]
        exact ⟨rfl, HCHG.out, v, l, HTB.out, HROW.out, HOWN.out, fun l' h => by injection h with h; exact h.symm⟩
      · rw [if_neg he] at htr1
        have he2 : (ee == 0) = false := by simpa using he
        have HTR := Lib.hid htr1
        clear htr1 he
        go_wp2_with fail
        refine HEN.out.mono ?_
        rintro e w3 ⟨rfl, rfl⟩
        go_wp2_with fail
        go_ret
        rw [HTR.out]
        exact ⟨rfl, HCHG.out, v, l, HTB.out, HROW.out, HOWN.out, fun l' h => by cases h⟩
end Go.Proofs.Ytcdoicndpecfiaa

namespace Go.Proofs.Ytcdoicndpecfiaa
open Go.RowKit Go.Deep
set_option linter.unusedVariables false
set_option linter.unusedSimpArgs false

def topF : ByteArray := ⟨#[116, 111, 112, 105, 99, 115]⟩
def openE (st : St) : Int := if (loadR st topF).2.2 ≠ 0 then (loadR st topF).2.2 else if (loadR st topF).2.1 = true then (if (takeR (loadR st topF).1).isSome = true then 0 else 4) else 0
def openT (st : St) : TL := if (loadR st topF).2.1 = true then (takeR (loadR st topF).1).getD [] else []
def OpenP (g : Gh) (E : Int) (T : TL) (w : World) (e : Ending) (w' : World) : Prop := Below w.heap.size w w' ∧
  (E ≠ 0 → e = .returned (.tuple #[.pointer none, .int .i64 E])) ∧
  (E = 0 → ∃ tb v, e = .returned (.tuple #[.pointer (some ⟨tb, 0, none⟩), .int .i64 0]) ∧ w.heap.size ≤ tb ∧ TblAt w' tb (.pointer (some ⟨g.d, 0, none⟩)) v ∧ TRow w' v T ∧ ∀ q, v.ownBlock = some q → w.heap.size ≤ q)
def OpenTo (g : Gh) (st : St) : World → Ending → World → Prop := OpenP g (openE st) (openT st)
theorem openS_size (s : ByteArray) : (Cr.openS s).size ≤ s.size := by
  unfold Cr.openS
  split
  · rw [ByteArray.size_extract]; omega
  · exact Nat.zero_le _
theorem loadR_size {st : St} {nm : ByteArray} (h : ∀ f, st.find nm = some f → f.bytes.length ≤ 1000000) : (loadR st nm).1.size ≤ 1000000 := by
  unfold loadR
  split
  · exact Nat.zero_le _
  · split
    · exact Nat.zero_le _
    · rename_i f hf
      split
      · refine Nat.le_trans (openS_size _) ?_
        rw [ba_size]
        exact h f hf
      · exact Nat.zero_le _
set_option maxHeartbeats 2000000 in
theorem open_any {g : Gh} {st : St} {w : World} (h : DiskAt w g st) (hs : ∀ f, st.find topF = some f → f.bytes.length ≤ 1000000) :
    Calls Try.prog 8 #[.pointer (some ⟨g.d, 0, none⟩)] w (OpenTo g st w) := by
  have hL := load_any topF h (by show 6 ≤ maxLen; unfold maxLen; omega) hs
  have hsz := loadR_size hs
  unfold LoadTo at hL
  have hE : openE st = if (loadR st topF).2.2 ≠ 0 then (loadR st topF).2.2 else if (loadR st topF).2.1 = true then (if (takeR (loadR st topF).1).isSome = true then 0 else 4) else 0 := rfl
  have hT : openT st = if (loadR st topF).2.1 = true then (takeR (loadR st topF).1).getD [] else [] := rfl
  unfold OpenTo
  rw [hE, hT]
  obtain ⟨s, hs2⟩ : ∃ s, s = (loadR st topF).1 := ⟨_, rfl⟩
  obtain ⟨th, hth⟩ : ∃ th, th = (loadR st topF).2.1 := ⟨_, rfl⟩
  obtain ⟨er, her⟩ : ∃ er, er = (loadR st topF).2.2 := ⟨_, rfl⟩
  rw [← hs2] at hsz
  rw [← hs2, ← hth, ← her] at hL ⊢
  have HL := Lib.hid hL
  clear hL hE hT hs2 hth her h hs
  obtain ⟨T, hT⟩ : ∃ T, T = (if th = true then (takeR s).getD [] else []) := ⟨_, rfl⟩
  rw [← hT]
  by_cases he : er = 0
  · subst he
    rw [if_neg (by simp)]
    cases th with
    | false =>
      rw [if_neg (by simp)] at hT
      rw [if_neg (by simp)]
      subst hT
      go_enter Try.func8, Try.ntmps8
      go_wp2_with fail
      refine HL.out.mono ?_
      rintro e w2 ⟨rfl, hb2⟩
      have HB2 := Lib.hid hb2
      clear hb2
      go_wp2_with fail
      go_ret2
      refine ⟨HB2.out.alloc HB2.out.size _, fun h => absurd rfl h, fun _ => ⟨_, _, rfl, HB2.out.size, heap_alloc_new _ _, TRow.nil _, fun q hq => by cases hq⟩⟩
    | true =>
      rw [if_pos rfl] at hT
      rw [if_pos rfl]
      have hTK : ∀ W, Below w.heap.size w W → Calls Try.prog 22 #[.pointer (some ⟨W.heap.size, 0, none⟩), .string s] (W.alloc (.cells #[.pointer (some ⟨g.d, 0, none⟩), .slice none 0 0] 58)) fun e w' => e = .returned (.bool (takeR s).isSome) ∧ Below w.heap.size w w' ∧ ∃ v l, TblAt w' W.heap.size (.pointer (some ⟨g.d, 0, none⟩)) v ∧ TRow w' v l ∧ (∀ q, v.ownBlock = some q → w.heap.size ≤ q) ∧ ∀ l', takeR s = some l' → l' = l := fun W hW => by
        refine (take_any W.heap.size (.pointer (some ⟨g.d, 0, none⟩)) s _ (heap_alloc_new W _) hsz).mono ?_
        rintro e w' ⟨he, hc, v, l, a1, a2, a3, a4⟩
        have hz := hW.size
        refine ⟨he, ?_, v, l, a1, a2, fun q hq => ?_, a4⟩
        · have h1 : Below w.heap.size w (W.alloc (.cells #[.pointer (some ⟨g.d, 0, none⟩), .slice none 0 0] 58)) := hW.alloc hz _
          refine h1.trans (hc.below (fun k _ e => by omega) ?_)
          rw [World.size_alloc]; omega
        · have := a3 q hq
          rw [World.size_alloc] at this
          omega
      obtain ⟨r, hr⟩ : ∃ r, r = takeR s := ⟨_, rfl⟩
      rw [← hr] at hTK hT ⊢
      have HTK := Lib.hid hTK
      clear hTK hr hsz
      cases r with
      | none =>
        rw [if_neg (by simp)]
        clear hT
        go_enter Try.func8, Try.ntmps8
        go_wp2_with fail
        refine HL.out.mono ?_
        rintro e w2 ⟨rfl, hb2⟩
        have HK2 := Lib.hid (HTK.out w2 hb2)
        clear hb2
        go_wp2_with fail
        refine HK2.out.mono ?_
        rintro e w3 ⟨rfl, hb3, _⟩
        have HB3 := Lib.hid hb3
        clear hb3
        go_wp2_with fail
        go_ret2
        exact ⟨HB3.out, fun _ => rfl, fun h => by cases h⟩
      | some l0 =>
        rw [if_pos (by simp)]
        obtain rfl : T = l0 := hT
        go_enter Try.func8, Try.ntmps8
        go_wp2_with fail
        refine HL.out.mono ?_
        rintro e w2 ⟨rfl, hb2⟩
        have HK2 := Lib.hid (HTK.out w2 hb2)
        have HZ := Lib.hid hb2.size
        clear hb2
        go_wp2_with fail
        refine HK2.out.mono ?_
        rintro e w3 ⟨rfl, hb3, v, l, a1, a2, a3, a4⟩
        have HB3 : Hid (Below w.heap.size w w3 ∧ TblAt w3 w2.heap.size (.pointer (some ⟨g.d, 0, none⟩)) v ∧ TRow w3 v T ∧ ∀ q, v.ownBlock = some q → w.heap.size ≤ q) := Lib.hid ⟨hb3, a1, (a4 T rfl) ▸ a2, a3⟩
        clear hb3 a1 a2 a3 a4
        go_wp2_with fail
        go_ret2
        exact ⟨HB3.out.1, fun h => absurd rfl h, fun _ => ⟨_, v, rfl, HZ.out, HB3.out.2.1, HB3.out.2.2.1, HB3.out.2.2.2⟩⟩
  · have he2 : (er != 0) = true := by simpa using he
    rw [if_pos he]
    have HE := Lib.hid he
    clear he hT
    go_enter Try.func8, Try.ntmps8
    go_wp2_with fail
    refine HL.out.mono ?_
    rintro e w2 ⟨rfl, hb2⟩
    have HB2 := Lib.hid hb2
    clear hb2
    go_wp2_with fail
    go_ret2
    exact ⟨HB2.out, fun _ => rfl, fun h => absurd h HE.out⟩
end Go.Proofs.Ytcdoicndpecfiaa

namespace Go.Proofs.Ytcdoicndpecfiaa
open Go.RowKit Go.Deep
set_option linter.unusedVariables false
set_option linter.unusedSimpArgs false
attribute [local go_sem] fr_opt

/-- A table over a disk, all apart. -/
structure TabI (w : World) (g : Gh) (st : St) (tb : Nat) (v : Value) (l : TL) : Prop where
  disk : DiskAt w g st
  tbl : TblAt w tb (.pointer (some ⟨g.d, 0, none⟩)) v
  row : TRow w v l
  outT : tb ∉ g.fp
  outV : ∀ k, v.ownBlock = some k → k ∉ g.fp
def TabS (g : Gh) (tb : Nat) (v : Value) (k : Nat) : Prop := k ∈ g.fp ∨ k = tb ∨ v.ownBlock = some k
/-- What a call leaves of the rest. -/
structure TabTo (g g' : Gh) (tb : Nat) (v v' : Value) (w w' : World) : Prop where
  chg : Chg (TabS g tb v) w w'
  fp : ∀ k ∈ g'.fp, k ∈ g.fp ∨ w.heap.size ≤ k
  own : ∀ k, v'.ownBlock = some k → v.ownBlock = some k ∨ w.heap.size ≤ k
  d : g'.d = g.d
theorem TabI.new {w w' : World} {g : Gh} {st : St} {tb : Nat} {v : Value} {l : TL} (h : TabI w g st tb v l) (hc : Chg (fun _ => False) w w') : TabI w' g st tb v l :=
  ⟨h.disk.new hc, h.tbl.chg hc (fun e => e), h.row.chg hc (fun _ _ e => e), h.outT, h.outV⟩
theorem TabTo.new {w w' : World} (g : Gh) (tb : Nat) (v : Value) (hc : Chg (fun _ => False) w w') : TabTo g g tb v v w w' := ⟨hc.wide (fun _ _ e => e.elim), fun _ h => .inl h, fun _ h => .inl h, rfl⟩
theorem TabI.head {w : World} {g : Gh} {st : St} {tb : Nat} {v : Value} {l : TL} (h : TabI w g st tb v l) : THead w tb v l := ⟨h.tbl.c1, h.row⟩
/-- What is saved of a list. -/
def sealT (l : TL) : ByteArray := ⟨(Cr.sealB ⟨(bytesT l).toArray⟩).toArray⟩
def addE (st : St) (l : TL) (nm : ByteArray) (q : Int) : Int := if refE l nm q = 0 then saveE st (freshB topF) topF (sealT (l ++ [(nm, q)])) else refE l nm q
def addS (st : St) (l : TL) (nm : ByteArray) (q : Int) : St := if refE l nm q = 0 then saveS st (freshB topF) topF (sealT (l ++ [(nm, q)])) else st
def addL (st : St) (l : TL) (nm : ByteArray) (q : Int) : TL := if addE st l nm q = 0 then l ++ [(nm, q)] else l
def AddTo (g : Gh) (st : St) (tb : Nat) (v : Value) (l : TL) (nm : ByteArray) (q : Int) (w : World) (e : Ending) (w' : World) : Prop :=
  e = .returned (.int .i64 (addE st l nm q)) ∧ ∃ g' v', TabI w' g' (addS st l nm q) tb v' (addL st l nm q) ∧ TabTo g g' tb v v' w w'
/-- The table, and a list that was appended but isn't put there yet. -/
structure Pend (w0 w : World) (g : Gh) (st : St) (tb : Nat) (v v' : Value) (l l' : TL) : Prop where
  tab : TabI w g st tb v l
  row : TRow w v' l'
  chg : Chg (fun k => v.ownBlock = some k) w0 w
  own : ∀ k, v'.ownBlock = some k → v.ownBlock = some k ∨ w0.heap.size ≤ k
theorem Pend.new {w0 w w' : World} {g : Gh} {st : St} {tb : Nat} {v v' : Value} {l l' : TL} (h : Pend w0 w g st tb v v' l l') (hc : Chg (fun _ => False) w w') : Pend w0 w' g st tb v v' l l' :=
  ⟨h.tab.new hc, h.row.chg hc (fun _ _ e => e), h.chg.trans hc (fun _ _ e => e.elim), h.own⟩
theorem Pend.of {w0 wA w : World} {g : Gh} {st : St} {tb : Nat} {v v' : Value} {l : TL} {x : ByteArray × Int} (h : TabI w0 g st tb v l) (hc : Chg (fun _ => False) w0 wA) (ha : AppT wA v l x v' w) : Pend w0 w g st tb v v' l (l ++ [x]) := by
  have hA := h.new hc
  have c1 : Chg (fun k => v.ownBlock = some k) wA w := Chg.of_grown ha.grown (fun k hk _ => hk)
  have hne := hA.row.apart hA.tbl (by decide)
  refine ⟨⟨hA.disk.chg c1 (fun k hk e => hA.outV k e hk), hA.tbl.chg c1 (fun e => hne tb e rfl), ha.old, hA.outT, hA.outV⟩, ha.row, (hc.wide (S' := fun k => v.ownBlock = some k) (fun _ _ e => e.elim)).trans c1 (fun _ _ e => e), fun k hk => ?_⟩
  rcases ha.own with e | e
  · exact .inl (e ▸ hk)
  · rw [e] at hk
    injection hk with hk
    have := hc.size
    exact .inr (by omega)
/-- Behind Save. -/
theorem Pend.saved {w0 w w' : World} {g g' : Gh} {st st' : St} {tb : Nat} {v v' : Value} {l l' : TL} (h : Pend w0 w g st tb v v' l l') (h0 : TabI w0 g st tb v l) (hd : DiskAt w' g' st') (ht : Gh.To w g g' w') :
    TabI w' g' st' tb v l ∧ TabTo g g' tb v v w0 w' ∧ TRow w' v' l' ∧ (∀ k, v'.ownBlock = some k → k ∉ g'.fp) := by
  have hsz := h.chg.size
  have hout : ∀ k, k ∉ g.fp → k < w.heap.size → k ∉ g'.fp := fun k hk hl hx => by
    rcases ht.fp k hx with a | a
    · exact hk a
    · omega
  have hv' : ∀ k, v'.ownBlock = some k → k ∉ g.fp := fun k hk hx => by
    rcases h.own k hk with a | a
    · exact h.tab.outV k a hx
    · have := h0.disk.lt k hx; omega
  refine ⟨⟨hd, ?_, h.tab.row.chg ht.chg (fun k hk => h.tab.outV k hk), hout tb h.tab.outT h.tab.tbl.lt, fun k hk => hout k (h.tab.outV k hk) (h.tab.row.lt k hk)⟩, ⟨?_, fun k hk => ?_, fun k hk => .inl hk, ht.d⟩, h.row.chg ht.chg (fun k hk => hv' k hk), fun k hk => hout k (hv' k hk) (h.row.lt k hk)⟩
  · have := h.tab.tbl.chg ht.chg h.tab.outT
    rw [ht.d]; exact this
  · exact (h.chg.wide (S' := TabS g tb v) (fun k _ e => .inr (.inr e))).trans ht.chg (fun k _ e => .inl e)
  · rcases ht.fp k hk with a | a
    · exact .inl a
    · exact .inr (by omega)
/-- The new list is put into the table. -/
theorem TabI.put {w0 w : World} {g g' : Gh} {st' : St} {tb : Nat} {v v' : Value} {l l' : TL} (h : TabI w g' st' tb v l) (ht : TabTo g g' tb v v w0 w) (hr : TRow w v' l') (ho : ∀ k, v'.ownBlock = some k → k ∉ g'.fp) (hw : ∀ k, v'.ownBlock = some k → v.ownBlock = some k ∨ w0.heap.size ≤ k) :
    TabI (w.setCell ⟨tb, 1, none⟩ v') g' st' tb v' l' ∧ TabTo g g' tb v v' w0 (w.setCell ⟨tb, 1, none⟩ v') := by
  have c2 : Chg (fun k => k = tb) w (w.setCell ⟨tb, 1, none⟩ v') := Chg.setCell (S := fun k => k = tb) (Chg.refl _ _) (fun _ => rfl) _
  have hne := hr.apart h.tbl (by decide)
  refine ⟨⟨h.disk.chg c2 (fun k hk e => h.outT (e ▸ hk)), ?_, hr.chg c2 (fun k hk e => hne k hk e), h.outT, ho⟩, ⟨ht.chg.trans c2 (fun k _ e => .inr (.inl e)), ht.fp, hw, ht.d⟩⟩
  have := heap_setCell_same w tb 1 _ _ v' h.tbl
  unfold TblAt
  rw [this]
  rfl
theorem sealT_size {l : TL} (hl : l.length ≤ 255) (hs : ∀ t ∈ l, t.1.size ≤ 1000) : (⟨(bytesT l).toArray⟩ : ByteArray).size ≤ 1000000 := by
  rw [ba_size]
  unfold bytesT
  rw [List.length_append, Oc.numB_length]
  have := flat_len l hs
  have : 1003 * l.length ≤ 1003 * 255 := Nat.mul_le_mul_left _ hl
  omega
set_option maxHeartbeats 8000000 in
set_option maxRecDepth 100000 in
theorem add_any_t {n : Nat} {g : Gh} {st : St} {tb : Nat} {v : Value} {l : TL} {w : World} (nm : ByteArray) (q : Int) (h : TabI w g st tb v l) (hg : Good n st) (hn : n ≤ 900000) (hl : l.length ≤ 200) (hm : nm.size ≤ 1000) (hs : ∀ t ∈ l, t.1.size ≤ 1000 ∧ 0 ≤ t.2 ∧ t.2 ≤ 255) :
    Calls Try.prog 10 #[.pointer (some ⟨tb, 0, none⟩), .string nm, .int .i64 q] w (AddTo g st tb v l nm q w) := by
  obtain ⟨w1, hw1⟩ : ∃ w1, w1 = w.alloc (.cells #[.string nm, .int .i64 q] 31) := ⟨_, rfl⟩
  have hb1 : Below w.heap.size w w1 := by rw [hw1]; exact (Below.refl _ _).alloc (Nat.le_refl _) _
  have d0 : w1.cell? ⟨w.heap.size, 0, none⟩ = some (.string nm) := by rw [hw1]; simp [go_sem]
  have d1 : w1.cell? ⟨w.heap.size, 1, none⟩ = some (.int .i64 q) := by rw [hw1]; simp [go_sem]
  have h1 := h.new (Chg.of_below hb1)
  have hRF := refuses_any nm q h1.head (by omega) (by unfold maxLen; omega)
  obtain ⟨sb, hsb⟩ : ∃ sb, sb = w.heap.size := ⟨_, rfl⟩
  rw [← hsb] at d0 d1
  have hE : addE st l nm q = if refE l nm q = 0 then saveE st (freshB topF) topF (sealT (l ++ [(nm, q)])) else refE l nm q := rfl
  have hS : addS st l nm q = if refE l nm q = 0 then saveS st (freshB topF) topF (sealT (l ++ [(nm, q)])) else st := rfl
  have hL : addL st l nm q = if addE st l nm q = 0 then l ++ [(nm, q)] else l := rfl
  have hz0 := fun e => refE_zero (l := l) (nm := nm) (q := q) e
  unfold AddTo
  rw [hL, hE, hS]
  obtain ⟨rz, hrz⟩ : ∃ rz, rz = refE l nm q := ⟨_, rfl⟩
  rw [← hrz] at hRF hz0 ⊢
  have HRF := Lib.hid hRF
  have HW1 := Lib.hid hw1
  have HSB := Lib.hid hsb
  have HB1 := Lib.hid hb1
  clear hRF hw1 hE hS hL hrz hb1 hsb
  by_cases hz : rz = 0
  · obtain ⟨y1, y2, y3, _, _⟩ := hz0 hz
    clear hz0
    subst hz
    rw [if_pos rfl, if_pos rfl]
    obtain ⟨l', hl'⟩ : ∃ l', l' = l ++ [(nm, q)] := ⟨_, rfl⟩
    have hs' : ∀ t ∈ l', t.1.size ≤ 1000 ∧ 0 ≤ t.2 ∧ t.2 ≤ 255 := fun t ht => by
      rw [hl'] at ht
      rcases List.mem_append.1 ht with a | a
      · exact hs t a
      · simp at a; subst a; exact ⟨hm, by show 0 ≤ q; omega, by show q ≤ 255; omega⟩
    have hlen' : l'.length ≤ 255 := by rw [hl']; simp; omega
    have hlen1 : l'.length = l.length + 1 := by rw [hl']; simp
    obtain ⟨sk, hsk⟩ : ∃ sk : ByteArray, sk = ⟨(bytesT l').toArray⟩ := ⟨_, rfl⟩
    have hsks : sk.size ≤ 1000000 := by rw [hsk]; exact sealT_size hlen' (fun t ht => (hs' t ht).1)
    obtain ⟨se, hse⟩ : ∃ se, se = saveE st (freshB topF) topF (sealT l') := ⟨_, rfl⟩
    obtain ⟨ss, hss⟩ : ∃ ss, ss = saveS st (freshB topF) topF (sealT l') := ⟨_, rfl⟩
    have hSV : ∀ W (v' : Value), Pend w W g st tb v v' l l' → Calls Try.prog 18 #[.pointer (some ⟨g.d, 0, none⟩), .string ⟨#[116, 111, 112, 105, 99, 115]⟩, .string sk] W fun e w' => e = .returned (.int .i64 se) ∧ ∃ g', TabI w' g' ss tb v l ∧ TabTo g g' tb v v w w' ∧ TRow w' v' l' ∧ (∀ k, v'.ownBlock = some k → k ∉ g'.fp) := fun W v' hp => by
      refine (save_any topF sk hp.tab.disk hg hn (by decide) hsks).mono ?_
      intro e w' hx
      unfold SaveTo at hx
      obtain ⟨he, g', hd, ht⟩ := hx
      have e1 : (⟨(Cr.sealB sk).toArray⟩ : ByteArray) = sealT l' := by rw [hsk]; rfl
      rw [e1, ← hse] at he
      rw [e1, ← hss] at hd
      exact ⟨he, g', hp.saved h hd ht⟩
    have hOC : ∀ W (v' : Value), TRow W v' l' → Calls Try.prog 24 #[v'] W fun e w' => e = .returned (.string sk) ∧ Below W.heap.size W w' := fun W v' hr => by
      have := octets_any v' l' W hr hlen' hs'
      rw [← hsk] at this
      exact this
    rw [← hl', ← hse, ← hss]
    obtain ⟨lf, hlf⟩ : ∃ lf, lf = (if se = 0 then l' else l) := ⟨_, rfl⟩
    rw [← hlf]
    have HLF := Lib.hid hlf
    clear hlf
    have HSV := Lib.hid hSV
    have HOC := Lib.hid hOC
    have HH := Lib.hid h
    have HL' := Lib.hid hl'
    have HLEN := Lib.hid hlen1
    clear hSV hOC h h1 hl' hlen' hlen1 hs' hs hsk hsks hse hss hg y1 y2 y3 hm hn
    go_enter Try.func10, Try.ntmps10
    go_upto_region 2 with fail
    rw [← HW1.out, ← HSB.out]
    go_wp2_with fail
    refine HRF.out.mono ?_
    rintro e w2 ⟨rfl, hb2⟩
    have e0 := ukeep hb2 d0
    have e1 := ukeep hb2 d1
    clear d0 d1
    have hc2 : Chg (fun _ => False) w w2 := (Chg.of_below HB1.out).trans (Chg.of_below hb2) (fun _ _ e => e)
    have h2 := HH.out.new hc2
    obtain ⟨WA, hWA⟩ : ∃ WA, WA = w2.alloc (.cells #[.string nm, .int .i64 q] 31) := ⟨_, rfl⟩
    have hkA : Chg (fun _ => False) w2 WA := Chg.of_below (by rw [hWA]; exact (Below.refl _ _).alloc (Nat.le_refl _) _)
    have hA0 : WA.cell? ⟨w2.heap.size, 0, none⟩ = some (.string nm) := by rw [hWA]; simp [go_sem]
    have hA1 : WA.cell? ⟨w2.heap.size, 1, none⟩ = some (.int .i64 q) := by rw [hWA]; simp [go_sem]
    have hA := h2.new hkA
    have hap := fun ty => app_topic (w := WA.drew) (nm, q) (q := w2.heap.size) (c := 1) (show TRow WA.drew v l from hA.row) (by omega) hA0 hA1 ty
    have hfin : ∀ v' w7, AppT WA.drew v l (nm, q) v' w7 → Pend w w7 g st tb v v' l l' := fun v' w7 ha => by
      rw [HL'.out]
      exact Pend.of (wA := WA.drew) HH.out ((hc2.trans hkA (fun _ _ e => e)).drew) ha
    have hc1 := h2.tbl.c1
    have hc1A : WA.cell? ⟨tb, 1, none⟩ = some v := hA.tbl.c1
    have HAP := Lib.hid hap
    have HFIN := Lib.hid hfin
    have HWA := Lib.hid hWA
    clear hb2 hc2 h2 hWA hkA hA0 hA1 hA hap hfin
    go_wp2_with fail
    rename_i Kc hc
    refine region_ph (n := 41) 12 [5, 6, 7] rfl rfl (by kernel_rfl) (by kernel_rfl) (by kernel_rfl) (fun i u => match i with | 0 => u = .pointer (some ⟨tb, 0, none⟩) | 1 => u = .pointer (some ⟨tb, 0, none⟩) | 2 => u = .pointer (some ⟨tb, 1, none⟩) | 3 => u = v | 4 => u = .agg #[.string nm, .int .i64 q] | 5 => u = .slice (some ⟨w2.heap.size, 0, none⟩) 1 1 | _ => True)
      (fun p f w' => match p with | 0 => w2.drew = w' | 1 => WA.drew = w' | 2 => AppT WA.drew v l (nm, q) (f 26) w' | _ => AppT WA.drew v l (nm, q) (f 9) w') ?_ ?_ ?_
    · exact rfl
    · simp only [AllAt]
      refine ⟨?_, ?_, ?_, ?_, ?_, ?_, ?_, ?_, trivial⟩
      · refine StepPh.reg rfl (by decide) (fun d hd => by cases hd; decide) ?_
        intro f w' p hG hup hdn hfr hp K hK
        have g0 : f 0 = .pointer (some ⟨tb, 0, none⟩) := hfr 0 (by kernel_rfl)
        clear hfr hp hup hdn
        go_simp
        exact hK _ _ rfl hG
      · refine StepPh.reg rfl (by decide) (fun d hd => by cases hd; decide) ?_
        intro f w' p hG hup hdn hfr hp K hK
        have g20 : f 20 = .pointer (some ⟨tb, 0, none⟩) := hp 0 _ 20 rfl rfl (by kernel_rfl)
        clear hfr hp hup hdn
        go_simp
        exact hK _ _ rfl hG
      · refine StepPh.reg rfl (by decide) (fun d hd => by cases hd; decide) ?_
        intro f w' p hG hup hdn hfr hp K hK
        have g21 : f 21 = .pointer (some ⟨tb, 0, none⟩) := hp 1 _ 21 rfl rfl (by kernel_rfl)
        clear hfr hp hup hdn
        go_simp
        exact hK _ _ rfl hG
      · refine StepPh.reg rfl (by decide) (fun d hd => by cases hd; decide) ?_
        intro f w' p hG hup hdn hfr hp K hK
        have g22 : f 22 = .pointer (some ⟨tb, 1, none⟩) := hp 2 _ 22 rfl rfl (by kernel_rfl)
        have hpp : p = 0 ∨ p = 1 := by have := hdn 1 (by decide) (.inl (by kernel_rfl)); omega
        clear hfr hp hup hdn
        rcases hpp with rfl | rfl
        · have hGe : w2.drew = w' := hG
          subst hGe
          go_simp
          exact hK _ _ rfl hG
        · have hGe : WA.drew = w' := hG
          subst hGe
          go_simp
          exact hK _ _ rfl hG
      · refine StepPh.reg rfl (by decide) (fun d hd => by cases hd; decide) ?_
        intro f w' p hG hup hdn hfr hp K hK
        have g7 : f 7 = .pointer (some ⟨sb, 0, none⟩) := hfr 7 (by kernel_rfl)
        have hpp : p = 0 := by have := hdn 0 (by decide) (.inl (by kernel_rfl)); omega
        clear hfr hp hup hdn
        subst hpp
        have hGe : w2.drew = w' := hG
        subst hGe
        go_simp
        exact hK _ _ rfl hG
      · refine StepPh.wr 0 rfl (by decide) rfl (fun d hd => by cases hd; decide) (fun j hj => by omega) ?_
        intro f w' hG hfr hp K hK
        have g24 : f 24 = .agg #[.string nm, .int .i64 q] := hp 4 _ 24 rfl rfl (by kernel_rfl)
        clear hfr hp
        have hGe : w2.drew = w' := hG
        subst hGe
        go_simp
        exact hK _ _ (fun _ => rfl) (by show WA.drew = _; rw [HWA.out])
      · refine StepPh.wr 1 rfl (by decide) rfl (fun d hd => by cases hd; decide) (fun j hj => by (obtain rfl : j = 0 := (by omega)); kernel_rfl) ?_
        intro f w' hG hfr hp K hK
        have g23 : f 23 = v := hp 3 _ 23 rfl rfl (by kernel_rfl)
        have g25 : f 25 = .slice (some ⟨w2.heap.size, 0, none⟩) 1 1 := hp 5 _ 25 rfl rfl (by kernel_rfl)
        clear hfr hp
        have hGe : WA.drew = w' := hG
        subst hGe
        obtain ⟨v', w2', hrun, hap⟩ := HAP.out 22
        unfold Oper.wp
        simp [execOp, resolve, invoke, builtin, fr_eval, g23, g25, hrun, Result.andThen]
        exact hK _ _ (fun _ => trivial) hap
      · refine StepPh.wr 2 rfl (by decide) rfl (fun d hd => by cases hd; decide) (fun j hj => by rcases (by omega : j = 0 ∨ j = 1) with rfl | rfl <;> kernel_rfl) ?_
        intro f w' hG hfr hp K hK
        clear hfr hp
        have hG1 : AppT WA.drew v l (nm, q) (f 26) w' := hG
        obtain ⟨vv, hvv⟩ : ∃ vv, vv = f 26 := ⟨_, rfl⟩
        have g26 : f 26 = vv := hvv.symm
        rw [g26] at hG1
        clear hvv hG
        go_simp
        exact hK _ _ (fun _ => trivial) hG1
    · intro f w7 hG hfr hR
      refine hc _ _ ?_
      clear hR
      have hP := HFIN.out _ _ hG
      have hback := fr_back (n := 41) (f := f) (D := [9, 20, 21, 22, 23, 24, 25, 26]) rfl (by kernel_rfl) hfr
      rw [hback]
      simp only [mixL, List.elem_eq_contains, List.contains_cons, List.contains_nil, Nat.reduceBEq, Nat.reduceAdd, Bool.or_false, Bool.or_true, Bool.false_or, Bool.true_or, cond_false, cond_true, Bool.or_self, Nat.zero_add]
      clear hback hfr hG
      obtain ⟨va, vc, hv9⟩ := hP.row.len
      obtain ⟨v', hv'⟩ : ∃ v', v' = f 9 := ⟨_, rfl⟩
      rw [← hv'] at hP ⊢
      clear hv' hv9
      have HP := Lib.hid hP
      have hd0 := hP.tab.tbl.c0
      clear hP hc1 hc1A e0 e1
      have HSV2 : Hid (∀ W, Below w7.heap.size w7 W → Calls Try.prog 18 #[.pointer (some ⟨g.d, 0, none⟩), .string ⟨#[116, 111, 112, 105, 99, 115]⟩, .string sk] W fun e w' => e = .returned (.int .i64 se) ∧ ∃ g', TabI w' g' ss tb v l ∧ TabTo g g' tb v v w w' ∧ TRow w' v' l' ∧ (∀ k, v'.ownBlock = some k → k ∉ g'.fp)) := Lib.hid (fun W hW => HSV.out W v' (HP.out.new (Chg.of_below hW)))
      have HOC2 : Hid (∀ W, Below w7.heap.size w7 W → Calls Try.prog 24 #[v'] W fun e w' => e = .returned (.string sk) ∧ Below W.heap.size W w') := Lib.hid (fun W hW => HOC.out W v' ((HP.out.new (Chg.of_below hW)).row))
      go_upto_region 6 with fail
      go_region_held3 (fun w' => w'.cell? ⟨tb, 0, none⟩ = some (.pointer (some ⟨g.d, 0, none⟩)))
        (first | exact hd0 | go_keep)
        (first
          | (go_at_call 24
             refine (HOC2.out _ ?_).mono ?_
             · repeat (first | exact Below.refl _ _ | with_reducible refine below_drewN ?_ _ | with_reducible refine Below.drew ?_)
             rintro e w8 ⟨rfl, hb8⟩
             have hd0 := ukeep hb8 hd0
             have HB8 := Lib.hid hb8
             clear hb8)
          | (go_at_call 18
             refine (HSV2.out _ ?_).mono ?_
             · repeat (first | exact Below.refl _ _ | with_reducible refine below_drewN ?_ _ | with_reducible refine Below.drew ?_ | (refine ubelow_on HB8.out ?_ (Nat.le_refl _)))
             rintro e w9 ⟨rfl, g9, h9, t9, r9, o9⟩
             have hd0 := h9.tbl.c0
             rw [t9.d] at hd0
             have H9 := Lib.hid h9
             have T9 := Lib.hid t9
             have R9 := Lib.hid r9
             have O9 := Lib.hid o9
             clear h9 t9 r9 o9))
      all_goals
        have hc19 := H9.out.tbl.c1
        have hfz9 := H9.out.tbl.fz 1
        by_cases hy : se = 0
        · have hlf : lf = l' := by rw [HLF.out, if_pos hy]
          subst hy
          subst hlf
          clear HLF
          obtain ⟨va, vc, hv9⟩ := R9.out.len
          obtain ⟨vn, hvn⟩ : ∃ vn, vn = lf.length := ⟨_, rfl⟩
          rw [← hvn] at hv9
          subst hv9
          clear hvn
          obtain ⟨ua, uc, hu9⟩ := H9.out.row.len
          obtain ⟨un, hun⟩ : ∃ un, un = l.length := ⟨_, rfl⟩
          rw [← hun] at hu9
          subst hu9
          clear hun
          go_wp2_with fail
          go_ret
          refine ⟨rfl, g9, .slice va vn vc, ?_⟩
          have hput := H9.out.put T9.out R9.out O9.out HP.out.own
          exact hput
        · have hy2 : (se != 0) = true := by simpa using hy
          have hlf : lf = l := by rw [HLF.out, if_neg hy]
          subst hlf
          clear hy HLF
          go_wp2_with fail
          go_ret
          exact ⟨rfl, g9, v, H9.out, T9.out⟩
  · have hz2 : (rz != 0) = true := by simpa using hz
    rw [if_neg hz, if_neg hz, if_neg hz]
    have HH := Lib.hid h
    clear h h1 hg hs hz hz0
    go_enter Try.func10, Try.ntmps10
    go_upto_region 2 with fail
    rw [← HW1.out, ← HSB.out]
    go_wp2_with fail
    refine HRF.out.mono ?_
    rintro e w2 ⟨rfl, hb2⟩
    have HC2 : Hid (Chg (fun _ => False) w w2) := Lib.hid ((Chg.of_below HB1.out).trans (Chg.of_below hb2) (fun _ _ e => e))
    clear hb2
    go_wp2_with fail
    go_ret
    exact ⟨rfl, g, v, HH.out.new HC2.out, TabTo.new g tb v HC2.out⟩
end Go.Proofs.Ytcdoicndpecfiaa

namespace Go.Proofs.Ytcdoicndpecfiaa
open Go.RowKit Go.Deep
set_option linter.unusedVariables false
set_option linter.unusedSimpArgs false

/-- Topics that a table may have. -/
structure TOk (l : TL) : Prop where
  len : l.length ≤ 6
  each : ∀ t ∈ l, plainB t.1 = true ∧ 1 ≤ t.2 ∧ t.2 ≤ 3
  apart : (l.map (·.1)).Nodup
theorem plain_size {s : ByteArray} (h : plainB s = true) : 1 ≤ s.size ∧ s.size ≤ 16 := by
  have := okL_iff.1 h
  exact ⟨this.1, this.2.1⟩
theorem TOk.nil : TOk [] := ⟨by decide, fun t h => (by cases h), List.nodup_nil⟩
theorem TOk.add {l : TL} (h : TOk l) {nm : ByteArray} {q : Int} (hz : refE l nm q = 0) : TOk (l ++ [(nm, q)]) := by
  obtain ⟨h1, h2, h3, h4, h5⟩ := refE_zero hz
  refine ⟨by simp; omega, fun t ht => ?_, ?_⟩
  · rcases List.mem_append.1 ht with a | a
    · exact h.each t a
    · simp at a; subst a; exact ⟨h1, h2, h3⟩
  · rw [List.map_append, List.nodup_append]
    refine ⟨h.apart, by simp, fun a ha b hb hab => ?_⟩
    simp at hb
    subst hb
    subst hab
    obtain ⟨t, ht, rfl⟩ := List.mem_map.1 ha
    exact h4 t ht rfl
theorem TOk.sizes {l : TL} (h : TOk l) : ∀ t ∈ l, t.1.size ≤ 1000 ∧ 0 ≤ t.2 ∧ t.2 ≤ 255 := fun t ht => by
  obtain ⟨a, b, c⟩ := h.each t ht
  have := plain_size a
  omega
theorem refE_ok {l : TL} {nm : ByteArray} {q : Int} (h1 : plainB nm = true) (h2 : 1 ≤ q) (h3 : q ≤ 3) (h4 : ∀ t ∈ l, t.1 ≠ nm) (h5 : l.length < 6) : refE l nm q = 0 := by
  unfold refE
  rw [if_pos h1, if_neg (by omega), if_neg, if_neg (by omega)]
  rcases placeI_spec l nm with ⟨e, _⟩ | ⟨j, x, _, e2, e3⟩
  · rw [e]; decide
  · exact absurd e3 (h4 x (List.mem_of_getElem? e2))
theorem takeL_back : ∀ (r acc : TL), TOk (acc ++ r) → takeL r.length ⟨(r.flatMap topB).toArray⟩ 0 acc = some (acc ++ r, ⟨#[]⟩, 0)
  | [], acc, h => by unfold takeL; simp
  | t :: r, acc, h => by
    have ht := h.each t (by simp)
    have hsz := plain_size ht.1
    have e1 : tkS ⟨((t :: r).flatMap topB).toArray⟩ 0 = (t.1, ⟨(Oc.numB 1 t.2.toNat ++ r.flatMap topB).toArray⟩, 0) := by
      have e : (t :: r).flatMap topB = Oc.txtB t.1 ++ (Oc.numB 1 t.2.toNat ++ r.flatMap topB) := by
        rw [List.flatMap_cons]; unfold topB; rw [List.append_assoc]
      rw [e]
      unfold tkS
      rw [if_pos rfl, Oc.textS_read t.1 _ 16 (by omega) (by omega)]
      rfl
    have e2 : nkS ⟨(Oc.numB 1 t.2.toNat ++ r.flatMap topB).toArray⟩ 0 = (t.2.toNat, ⟨(r.flatMap topB).toArray⟩, 0) := by
      unfold nkS
      have := Oc.numS_read 1 t.2.toNat (by decide) (by decide) (by omega) (r.flatMap topB)
      rw [show ((1 : Nat) : Int) = 1 from rfl] at this
      rw [if_pos rfl, this]
      rfl
    have hz : refE acc t.1 t.2 = 0 := by
      refine refE_ok ht.1 ht.2.1 ht.2.2 (fun y hy e => ?_) ?_
      · have := h.apart
        rw [List.map_append, List.nodup_append] at this
        exact this.2.2 y.1 (List.mem_map_of_mem hy) t.1 (by simp) e
      · have := h.len
        rw [List.length_append, List.length_cons] at this
        omega
    have hq : ((t.2.toNat : Nat) : Int) = t.2 := by omega
    have ih := takeL_back r (acc ++ [t]) (by rw [List.append_assoc]; exact h)
    show takeL (r.length + 1) _ 0 acc = _
    unfold takeL
    rw [e1]
    simp only
    rw [e2]
    simp only
    rw [hq, if_pos hz]
    rw [show (t.1, t.2) = t from rfl, ih, List.append_assoc]
    rfl
theorem takeR_back {l : TL} (h : TOk l) : takeR ⟨(bytesT l).toArray⟩ = some l := by
  have hl := h.len
  have e : nkS ⟨(bytesT l).toArray⟩ 0 = (l.length, ⟨(l.flatMap topB).toArray⟩, 0) := by
    unfold nkS bytesT
    have := Oc.numS_read 1 l.length (by decide) (by decide) (by omega) (l.flatMap topB)
    rw [show ((1 : Nat) : Int) = 1 from rfl] at this
    rw [if_pos rfl, this]
    rfl
  unfold takeR
  rw [e]
  simp only
  rw [takeL_back l [] (by rw [List.nil_append]; exact h)]
  simp only [List.nil_append]
  rw [if_pos (by decide)]

/-- The file of a table says what it has. -/
def SavedT (st : St) (l : TL) : Prop := (l = [] ∧ st.find topF = none) ∨ HasF st topF (sealT l)
theorem ba_of (b : ByteArray) : (⟨b.data.toList.toArray⟩ : ByteArray) = b := by
  cases b
  simp
theorem sealT_len {l : TL} (h : TOk l) : (sealT l).size ≤ 6100 ∧ 5 ≤ (sealT l).size := by
  unfold sealT
  rw [ba_size, Cr.sealB_length, ba_size]
  unfold bytesT
  rw [List.length_append, Oc.numB_length]
  have := flat_len l (fun t ht => (h.sizes t ht).1)
  have := h.len
  omega
theorem topB_small {l : TL} (h : ∀ t ∈ l, t.1.size ≤ 16) : (l.flatMap topB).length ≤ 19 * l.length := by
  induction l with
  | nil => simp
  | cons x l ih =>
    rw [List.flatMap_cons, List.length_append, topB_len, List.length_cons]
    have := h x (List.mem_cons_self ..)
    have := ih fun t ht => h t (List.mem_cons_of_mem _ ht)
    omega
theorem sealT_small {l : TL} (h : TOk l) : (sealT l).size ≤ 119 := by
  unfold sealT
  rw [ba_size, Cr.sealB_length, ba_size]
  unfold bytesT
  rw [List.length_append, Oc.numB_length]
  have := topB_small (l := l) (fun t ht => (plain_size (h.each t ht).1).2)
  have := h.len
  omega
theorem SavedT.open_ {st : St} {l : TL} (h : SavedT st l) (hl : TOk l) (hd : st.down = false) : openE st = 0 ∧ openT st = l ∧ ∀ f, st.find topF = some f → f.bytes.length ≤ 1000000 := by
  rcases h with ⟨rfl, hn⟩ | ⟨F, hF, hb, _⟩
  · have e : loadR st topF = (⟨#[]⟩, false, 0) := by unfold loadR; rw [if_neg (by rw [hd]; simp), hn]
    refine ⟨?_, ?_, fun f hf => by rw [hn] at hf; cases hf⟩
    · unfold openE; rw [e]; rfl
    · unfold openT; rw [e]; rfl
  · have e : loadR st topF = (⟨(bytesT l).toArray⟩, true, 0) := by
      unfold loadR
      rw [if_neg (by rw [hd]; simp), hF]
      simp only
      rw [hb, ba_of]
      unfold sealT
      rw [Cr.sealed_opens, if_pos rfl, Cr.sealed_back]
    refine ⟨?_, ?_, fun f hf => ?_⟩
    · unfold openE; rw [e]; simp only; rw [takeR_back hl]; rfl
    · unfold openT; rw [e]; simp only; rw [takeR_back hl]; rfl
    · rw [hF] at hf
      injection hf with hf
      rw [← hf, hb, text_len]
      have := (sealT_len hl).1
      omega
theorem topF_ne : topF ≠ freshB topF := by decide
/-- Behind Add the file says what the table has. -/
theorem SavedT.add {st : St} {l : TL} (h : SavedT st l) (hl : TOk l) (nm : ByteArray) (q : Int) : SavedT (addS st l nm q) (addL st l nm q) ∧ TOk (addL st l nm q) := by
  unfold addL addS addE
  by_cases hz : refE l nm q = 0
  · rw [if_pos hz, if_pos hz]
    have hok := hl.add hz
    by_cases hs : saveE st (freshB topF) topF (sealT (l ++ [(nm, q)])) = 0
    · rw [if_pos hs]
      exact ⟨.inr (saveS_new (by have := (sealT_len hok).2; omega) topF_ne hs), hok⟩
    · rw [if_neg hs]
      have := saveS_old (nm := topF) (b := sealT (l ++ [(nm, q)])) topF_ne hs
      refine ⟨?_, hl⟩
      rcases h with ⟨a, b⟩ | ⟨F, a, b, c⟩
      · exact .inl ⟨a, this.trans b⟩
      · exact .inr ⟨F, this.trans a, b, c⟩
  · rw [if_neg hz, if_neg hz, if_neg hz]
    exact ⟨h, hl⟩
/-- A disk with a table's file alone, and room. -/
structure Alone (n : Nat) (st : St) (l : TL) : Prop where
  ease : Ease n st
  saved : SavedT st l
  ok : TOk l
  names : ∀ p ∈ st.fs, p.1 = topF
  size : st.size ≤ 119
  room : 1000 ≤ st.cap
theorem Alone.fresh {n : Nat} {st : St} {l : TL} (h : Alone n st l) : st.find (freshB topF) = none := by
  unfold St.find
  rw [Option.map_eq_none_iff, List.find?_eq_none]
  intro p hp
  have := h.names p hp
  rw [this]
  exact (by decide : ¬ decide (topF = freshB topF) = true)
theorem sum_one (fs : List (ByteArray × FileM)) (a : ByteArray) (h : ∀ p ∈ fs, p.1 = a) : dropF fs a = [] := by
  unfold dropF
  rw [List.filter_eq_nil_iff]
  intro p hp
  simp [h p hp]
theorem Alone.add {n : Nat} {st : St} {l : TL} (h : Alone n st l) (nm : ByteArray) (q : Int) : Alone (n + 2) (addS st l nm q) (addL st l nm q) ∧ addE st l nm q = refE l nm q ∧ addL st l nm q = if refE l nm q = 0 then l ++ [(nm, q)] else l := by
  have hs := h.saved.add h.ok nm q
  by_cases hz : refE l nm q = 0
  · have hok := h.ok.add hz
    have h1 := sealT_small hok
    have h2 := (sealT_len hok).2
    obtain ⟨e1, e2⟩ := h.ease.save h.fresh topF_ne (b := sealT (l ++ [(nm, q)])) (by omega) (by have := h.size; have := h.room; omega)
    have e3 := h.ease.saved h.fresh topF_ne (b := sealT (l ++ [(nm, q)])) (by omega) (by have := h.size; have := h.room; omega)
    have eE : addE st l nm q = 0 := by unfold addE; rw [if_pos hz, e1]
    have eS : addS st l nm q = savedS st topF (sealT (l ++ [(nm, q)])) := by unfold addS; rw [if_pos hz, e2]
    refine ⟨?_, by rw [eE, hz], by unfold addL; rw [if_pos eE, if_pos hz]⟩
    rw [eS] at hs ⊢
    refine ⟨e3, hs.1, hs.2, fun p hp => ?_, ?_, h.room⟩
    · have hp' : p ∈ dropF st.fs topF ++ [(topF, wholeF (sealT (l ++ [(nm, q)])))] := hp
      rw [sum_one _ _ h.names, List.nil_append] at hp'
      simp at hp'
      rw [hp']
    · have hg := e3.good.sum
      have hfs : (savedS st topF (sealT (l ++ [(nm, q)]))).fs = [(topF, wholeF (sealT (l ++ [(nm, q)])))] := by
        show dropF st.fs topF ++ [(topF, wholeF (sealT (l ++ [(nm, q)])))] = _
        rw [sum_one _ _ h.names, List.nil_append]
      rw [hg, hfs]
      show (sealT (l ++ [(nm, q)])).data.toList.length + 0 ≤ 119
      rw [text_len]
      omega
  · have eE : addE st l nm q = refE l nm q := by unfold addE; rw [if_neg hz]
    have eS : addS st l nm q = st := by unfold addS; rw [if_neg hz]
    have eL : addL st l nm q = l := by unfold addL; rw [eE, if_neg hz]
    refine ⟨?_, eE, by rw [eL, if_neg hz]⟩
    rw [eS, eL]
    exact ⟨h.ease.more (by omega), h.saved, h.ok, h.names, h.size, h.room⟩
theorem Alone.new (c : Int) (h0 : 1000 ≤ c) (h1 : c ≤ 16777216) : Alone 0 (newSt c) [] :=
  ⟨Ease.new c, .inl ⟨rfl, rfl⟩, TOk.nil, fun p hp => (by cases hp), Nat.zero_le _, by show 1000 ≤ (min (max c 0) 16777216).toNat; omega⟩
end Go.Proofs.Ytcdoicndpecfiaa

namespace Go.Proofs.Ytcdoicndpecfiaa
open Go.RowKit Go.Deep
set_option linter.unusedVariables false
set_option linter.unusedSimpArgs false

/-- A table in a world that is all new since w0. -/
structure NewI (w0 w : World) (g : Gh) (st : St) (tb : Nat) (v : Value) (l : TL) : Prop where
  tab : TabI w g st tb v l
  chg : Chg (fun _ => False) w0 w
  low : ∀ k, TabS g tb v k → w0.heap.size ≤ k
theorem NewI.new {w0 w w' : World} {g : Gh} {st : St} {tb : Nat} {v : Value} {l : TL} (h : NewI w0 w g st tb v l) (hc : Chg (fun _ => False) w w') : NewI w0 w' g st tb v l := ⟨h.tab.new hc, h.chg.trans hc (fun _ _ e => e), h.low⟩
theorem NewI.to {w0 w w' : World} {g g' : Gh} {st st' : St} {tb : Nat} {v v' : Value} {l l' : TL} (h : NewI w0 w g st tb v l) (h' : TabI w' g' st' tb v' l') (ht : TabTo g g' tb v v' w w') : NewI w0 w' g' st' tb v' l' := by
  have hz := h.chg.size
  refine ⟨h', h.chg.trans ht.chg (fun i hi hx => by have := h.low i hx; omega), fun k hk => ?_⟩
  rcases hk with hk | hk | hk
  · rcases ht.fp k hk with a | a
    · exact h.low k (.inl a)
    · omega
  · exact h.low k (.inr (.inl hk))
  · rcases ht.own k hk with a | a
    · exact h.low k (.inr (.inr a))
    · omega
theorem NewI.below {w0 w : World} {g : Gh} {st : St} {tb : Nat} {v : Value} {l : TL} (h : NewI w0 w g st tb v l) : Below w0.heap.size w0 w := h.chg.below (fun _ _ e => e.elim) (Nat.le_refl _)
theorem NewI.open_ {w0 w w' : World} {g : Gh} {st : St} {tb : Nat} {v : Value} {l : TL} (hd : DiskAt w g st) (hc : Chg (fun _ => False) w0 w) (hl : ∀ k ∈ g.fp, w0.heap.size ≤ k) (hb : Below w.heap.size w w') (h1 : w.heap.size ≤ tb) (h2 : TblAt w' tb (.pointer (some ⟨g.d, 0, none⟩)) v) (h3 : TRow w' v l) (h4 : ∀ q, v.ownBlock = some q → w.heap.size ≤ q) : NewI w0 w' g st tb v l := by
  have hk : Chg (fun _ => False) w w' := Chg.of_below hb
  have hz := hc.size
  refine ⟨⟨hd.new hk, h2, h3, fun hx => ?_, fun k hk hx => ?_⟩, hc.trans hk (fun _ _ e => e), fun k hk => ?_⟩
  · have := hd.lt _ hx; omega
  · have := hd.lt _ hx; have := h4 k hk; omega
  · rcases hk with hk | hk | hk
    · exact hl k hk
    · omega
    · have := h4 k hk; omega
theorem awP : plainB ⟨#[97]⟩ = true := by decide +kernel
theorem awR : refE [] ⟨#[97]⟩ 2 = 0 := refE_ok awP (by decide) (by decide) (fun t h => by cases h) (by decide)
theorem awQ : queI [(⟨#[97]⟩, 2)] ⟨#[97]⟩ = 2 := by
  unfold queI
  have e : placeI [((⟨#[97]⟩ : ByteArray), (2 : Int))] ⟨#[97]⟩ = 0 := by unfold placeI plcI; rw [if_pos (by simp)]; rfl
  rw [if_neg (by decide +kernel), e]
  rfl
theorem awC2 : chkE [(⟨#[97]⟩, 2)] ⟨#[97]⟩ 2 = 13 := by unfold chkE; rw [awQ]; rfl
theorem awC1 : chkE [(⟨#[97]⟩, 2)] ⟨#[97]⟩ 1 = 0 := by unfold chkE; rw [awQ]; rfl
/-- What Open answers of a disk where a table was saved. -/
theorem open_alone {w0 w : World} {g : Gh} {st : St} {l : TL} (hd : DiskAt w g st) (hc : Chg (fun _ => False) w0 w) (hlow : ∀ k ∈ g.fp, w0.heap.size ≤ k) (h : SavedT st l) (hl : TOk l) (hdn : st.down = false) :
    Calls Try.prog 8 #[.pointer (some ⟨g.d, 0, none⟩)] w fun e w' => Below w.heap.size w w' ∧ ∃ tb v, e = .returned (.tuple #[.pointer (some ⟨tb, 0, none⟩), .int .i64 0]) ∧ w.heap.size ≤ tb ∧ (∀ q, v.ownBlock = some q → w.heap.size ≤ q) ∧ NewI w0 w' g st tb v l := by
  obtain ⟨e1, e2, e3⟩ := h.open_ hl hdn
  have := open_any hd e3
  unfold OpenTo at this
  rw [e1, e2] at this
  refine this.mono ?_
  rintro e w' ⟨hb, _, h2⟩
  obtain ⟨tb, v, he, h3, h4, h5, h6⟩ := h2 rfl
  exact ⟨hb, tb, v, he, h3, h6, NewI.open_ hd hc hlow hb h3 h4 h5 h6⟩
/-- Add where there is room. -/
theorem add_alone {n : Nat} {w0 w : World} {g : Gh} {st : St} {tb : Nat} {v : Value} {l : TL} (nm : ByteArray) (q : Int) (h : NewI w0 w g st tb v l) (ha : Alone n st l) (hn : n ≤ 900000) (hm : nm.size ≤ 1000) :
    Calls Try.prog 10 #[.pointer (some ⟨tb, 0, none⟩), .string nm, .int .i64 q] w fun e w' => e = .returned (.int .i64 (refE l nm q)) ∧ ∃ g' v', NewI w0 w' g' (addS st l nm q) tb v' (if refE l nm q = 0 then l ++ [(nm, q)] else l) ∧ TabTo g g' tb v v' w w' := by
  obtain ⟨_, e1, e2⟩ := ha.add nm q
  have hl := ha.ok.len
  have := add_any_t nm q h.tab ha.ease.good hn (by omega) hm (fun t ht => ha.ok.sizes t ht)
  refine this.mono ?_
  rintro e w' ⟨he, g', v', h1, h2⟩
  rw [e1] at he
  rw [e2] at h1
  exact ⟨he, g', v', h.to h1 h2, h2⟩
set_option maxRecDepth 100000 in
set_option maxHeartbeats 1000000 in
theorem awake_u (w : World) : Calls Try.prog 6 #[] w fun e w' => e = .returned (.bool true) ∧ Below w.heap.size w w' := by
  have a0 := Alone.new 1000 (by decide) (by decide)
  have HO : Hid (∀ W, DiskAt W ⟨w.heap.size, none, []⟩ (newSt 1000) → Chg (fun _ => False) w W → Calls Try.prog 8 #[.pointer (some ⟨w.heap.size, 0, none⟩)] W fun e w' => Below W.heap.size W w' ∧ ∃ tb v, e = .returned (.tuple #[.pointer (some ⟨tb, 0, none⟩), .int .i64 0]) ∧ W.heap.size ≤ tb ∧ (∀ q, v.ownBlock = some q → W.heap.size ≤ q) ∧ NewI w w' ⟨w.heap.size, none, []⟩ (newSt 1000) tb v []) := Lib.hid (fun W hd hc =>
    open_alone (g := ⟨w.heap.size, none, []⟩) hd hc (fun k hk => by simp [Gh.fp] at hk; omega) a0.saved a0.ok rfl)
  have HA : Hid (∀ W tb v, NewI w W ⟨w.heap.size, none, []⟩ (newSt 1000) tb v [] → Calls Try.prog 10 #[.pointer (some ⟨tb, 0, none⟩), .string ⟨#[97]⟩, .int .i64 2] W fun e w' => e = .returned (.int .i64 0) ∧ ∃ g' v' st', NewI w w' g' st' tb v' [(⟨#[97]⟩, 2)]) := Lib.hid (fun W tb v h => by
    refine (add_alone ⟨#[97]⟩ 2 h a0 (by decide) (by decide)).mono ?_
    rintro e w' ⟨he, g', v', h1, _⟩
    rw [awR] at he h1
    exact ⟨he, g', v', _, h1⟩)
  have HC : Hid (∀ W g st tb v (q r : Int), NewI w W g st tb v [(⟨#[97]⟩, 2)] → chkE [(⟨#[97]⟩, 2)] ⟨#[97]⟩ q = r → Calls Try.prog 14 #[.pointer (some ⟨tb, 0, none⟩), .string ⟨#[97]⟩, .int .i64 q] W fun e w' => e = .returned (.int .i64 r) ∧ Below W.heap.size W w') := Lib.hid (fun W g st tb v q r h hr => by
    have := check_any (v := v) (l := [(⟨#[97]⟩, 2)]) ⟨#[97]⟩ q (w := W) h.tab.head (by decide) (by show 1 ≤ maxLen; unfold maxLen; omega)
    rw [hr] at this
    exact this)
  clear a0
  go_enter Try.func6, Try.ntmps6
  go_wp2_with fail
  refine (new_any 1000 w).mono ?_
  rintro e w1 ⟨rfl, hd1, hb1⟩
  have HO1 := Lib.hid (HO.out w1 hd1 (Chg.of_below hb1))
  clear hd1 hb1
  go_wp2_with fail
  refine HO1.out.mono ?_
  rintro e w2 ⟨_, tb, v, rfl, _, _, h2⟩
  have HA2 := Lib.hid (HA.out w2 tb v h2)
  clear h2
  go_wp2_with fail
  refine HA2.out.mono ?_
  rintro e w3 ⟨rfl, g3, v3, st3, h3⟩
  have H3 := Lib.hid h3
  have HC3 := Lib.hid (HC.out w3 g3 st3 tb v3 2 13 h3 awC2)
  clear h3
  go_wp2_with fail
  refine HC3.out.mono ?_
  rintro e w4 ⟨rfl, hb4⟩
  have H4 := Lib.hid (H3.out.new (Chg.of_below hb4))
  have HC4 := Lib.hid (HC.out w4 g3 st3 tb v3 1 0 H4.out awC1)
  clear hb4
  go_wp2_with fail
  refine HC4.out.mono ?_
  rintro e w5 ⟨rfl, hb5⟩
  have H5 := Lib.hid (H4.out.new (Chg.of_below hb5))
  clear hb5
  go_wp2_with fail
  go_ret
  exact ⟨rfl, H5.out.below⟩
end Go.Proofs.Ytcdoicndpecfiaa

namespace Go.Proofs.Ytcdoicndpecfiaa
open Go.RowKit Go.Deep
set_option linter.unusedVariables false
set_option linter.unusedSimpArgs false

def Clone2 (w : World) (l : TL) (e : Ending) (w' : World) : Prop := ∃ v', e = .returned v' ∧ TRow w' v' l ∧ Below w.heap.size w w' ∧ ∀ q, v'.ownBlock = some q → w.heap.size ≤ q
set_option maxRecDepth 100000 in
theorem app_all2 {w : World} {g : Nat} {a : Option Addr} {cap : Nat} {l : TL} (hg : w.heap[g]? = some (.cells #[] 31 (0, 0))) (h : TRow w (.slice a l.length cap) l) (hl : l.length ≤ 1000) (ty : TypeId) :
    ∃ v' w', (Builtin.append_ #[22, 22] ty #[.slice (some ⟨g, 0, none⟩) 0 0, .slice a l.length cap]).run Try.prog w = .ok v' w' ∧ TRow w' v' l ∧ w.grownBy w' (some g) ∧ (v'.ownBlock = some g ∨ v'.ownBlock = some w.heap.size) := by
  obtain ⟨i0, hi, hz0, hz1, hz2⟩ := uinfo_parts info_topic
  have h0 : w.ownsRow 0 31 2 (.slice (some ⟨g, 0, none⟩) 0 0) 0 [] := ⟨rfl, .inr ⟨g, 0, #[], rfl, Nat.zero_le _, hg, Nat.le_refl _, Nat.zero_le _, rfl, rfl⟩⟩
  rcases h.2 with ⟨hv, hn⟩ | ⟨g2, cap2, cur, hv, hb, hg2, hnc, hcm, hcs, htk⟩
  · injection hv with e1 e2 e3
    subst e1 e3
    have : l = [] := List.length_eq_zero_iff.1 hn
    subst this
    refine ⟨.slice (some ⟨g, 0, none⟩) 0 0, w, ?_, h0, grownBy_refl _ _, .inl rfl⟩
    simp [Builtin.append_, run_underlying Try.underlying22, sizeOf, typeInfo, hi, Builtin.lenOf, Builtin.firstCells, storeCells]
  · injection hv with e1 e2 e3
    subst e1
    have hcell : ∀ j u, (tcs l)[j]? = some u → w.cell? ((⟨g2, 0, none⟩ : Addr).add j) = some u := World.ownsRow.cells h (g := g2) rfl
    obtain ⟨v', w', hr, k1, k2, _, k3⟩ := run_append_own_at (P := Try.prog) (w := w) 0 22 ty 31 i0 _ 2 24 Try.underlying22 hi hz0 hz1 hz2 rfl (by decide) (.slice (some ⟨g, 0, none⟩) 0 0) 0 [] h0 ⟨g2, 0, none⟩ l.length cap (tcs l) (tcs_len l) hcell (tcs_one l) (by unfold maxLen; omega) (by omega) (Nat.zero_le _)
    refine ⟨v', w', hr, ?_, k2, k3⟩
    unfold TRow
    simpa using k1
set_option maxRecDepth 100000 in
theorem tclone2_any (v : Value) (l : TL) (w : World) (h : TRow w v l) (hl : l.length ≤ 1000) :
    Calls Try.prog 27 #[v] w (Clone2 w l) := by
  obtain ⟨a, cap, rfl⟩ := h.len
  cases a with
  | none =>
    have hl0 : l = [] ∧ cap = 0 := by
      rcases h.form with ⟨e, e2⟩ | ⟨g, c, e, _⟩
      · injection e with _ _ e3
        exact ⟨e2, e3⟩
      · injection e with e1; cases e1
    obtain ⟨rfl, rfl⟩ := hl0
    clear h
    show Calls Try.prog 27 #[.slice none 0 0] w (Clone2 w [])
    have hnil := fun W => Lib.run_eql_slice_nil (P := Try.prog) W 22 31 none 0 0 0 0 Try.underlying22
    go_enter Try.func27, Try.ntmps27
    go_wp2_with fail
    go_ret
    exact ⟨_, rfl, TRow.nil _, Below.refl _ _, fun q hq => by cases hq⟩
  | some ad =>
    obtain ⟨w1, hw1⟩ : ∃ w1, w1 = w.alloc (.cells #[] 31) := ⟨_, rfl⟩
    have hg : w1.heap[w.heap.size]? = some (.cells #[] 31 (0, 0)) := by rw [hw1]; exact heap_alloc_new w _
    have hb1 : Below w.heap.size w w1 := hw1 ▸ (Below.refl _ _).alloc (Nat.le_refl _) _
    obtain ⟨v', w', hr, k1, k2, k3⟩ := app_all2 (ty := 22) hg (h.new hb1) hl
    have hb2 : Below w.heap.size w w' := (Chg.below (B := w.heap.size) (Chg.of_grown (S := fun q => q = w.heap.size) k2 (fun q hx _ => by injection hx with hx; exact hx.symm)) (fun k _ e => by rw [e]; exact Nat.le_refl _) (by rw [hw1, World.size_alloc]; omega)) |> fun x => hb1.trans x
    have hown : ∀ q, v'.ownBlock = some q → w.heap.size ≤ q := fun q hq => by
      rcases k3 with e | e
      · rw [e] at hq; injection hq with hq; omega
      · rw [e, hw1, World.size_alloc] at hq; injection hq with hq; omega
    have hnil := fun W => Lib.run_eql_slice_nil (P := Try.prog) W 22 31 (some ad) l.length cap 0 0 Try.underlying22
    have HR := Lib.hid hr
    have HK := Lib.hid k1
    have HB := Lib.hid hb2
    have HO := Lib.hid hown
    rw [hw1] at HR
    obtain ⟨n, hn⟩ : ∃ n, n = l.length := ⟨_, rfl⟩
    rw [← hn] at HR hnil ⊢
    clear h hl hw1 hg hb1 hr k1 k2 k3 hb2 hn hown
    go_enter Try.func27, Try.ntmps27
    go_wp2_with (at_builtin; refine Lib.wpList_append_run _ rfl _ _ _ _ rfl _ _ rfl rfl _ _ HR.out ?_)
    go_wp2_with fail
    go_ret
    exact ⟨_, rfl, HK.out, HB.out, HO.out⟩
theorem all2_topics {tb : Nat} {v : Value} {l : TL} {w : World} (h : THead w tb v l) (hl : l.length ≤ 1000) :
    Calls Try.prog 12 #[.pointer (some ⟨tb, 0, none⟩)] w (Clone2 w l) := by
  have HC := Lib.hid (tclone2_any v l w h.row hl)
  have hc := h.cell
  clear h
  go_enter Try.func12, Try.ntmps12
  go_wp2_with fail
  refine HC.out.mono ?_
  rintro e w2 ⟨v', rfl, h2⟩
  have H2 := Lib.hid h2
  clear h2
  go_wp2_with fail
  go_ret
  exact ⟨_, rfl, H2.out⟩
/-- The disk under a table is called. -/
theorem TabI.on {w w' : World} {g g' : Gh} {st st' : St} {tb : Nat} {v : Value} {l : TL} (h : TabI w g st tb v l) (hd : DiskAt w' g' st') (ht : Gh.To w g g' w') : TabI w' g' st' tb v l ∧ TabTo g g' tb v v w w' := by
  have hout : ∀ k, k ∉ g.fp → k < w.heap.size → k ∉ g'.fp := fun k hk hl hx => by
    rcases ht.fp k hx with a | a
    · exact hk a
    · omega
  refine ⟨⟨hd, ?_, h.row.chg ht.chg (fun k hk => h.outV k hk), hout tb h.outT h.tbl.lt, fun k hk => hout k (h.outV k hk) (h.row.lt k hk)⟩, ⟨ht.chg.wide (fun _ _ e => .inl e), ht.fp, fun k hk => .inl hk, ht.d⟩⟩
  have := h.tbl.chg ht.chg h.outT
  rw [ht.d]; exact this
/-- A list of the law's own stays. -/
theorem TRow.on {w w' : World} {g g' : Gh} {tb : Nat} {v v' u : Value} {l : TL} (h : TRow w u l) (ht : TabTo g g' tb v v' w w') (hn : ∀ q, u.ownBlock = some q → ¬ TabS g tb v q) : TRow w' u l := h.chg ht.chg hn
end Go.Proofs.Ytcdoicndpecfiaa

