/- A part. -/
import Derived.Test.YtemimmnamajooaaGreatOpl7
import Derived.Test.YtemimmnamajooaaGreatOpl29
set_option linter.unusedVariables false
set_option linter.unusedSimpArgs false
namespace Go.Proofs.YtemimmnamajooaaGreat
open Go.RowKit Go.Deep
def offB (x : OfM) : List UInt8 := Oc.txtB x.g ++ Oc.txtB x.t ++ Oc.numB 1 x.q.toNat ++ Oc.numB 6 x.a.toNat
def bytesO (l : OL) : List UInt8 := Oc.numB 1 l.length ++ l.flatMap offB
theorem vnum_one (k : Nat) {N : Int} (hk : 1 ≤ k) (hk8 : k ≤ 7) (h0 : 0 ≤ N) (h1 : N < (256 : Int) ^ k) (w : World) :
    Calls Tryz.prog 76 #[.int .i64 (k : Int), .slice (some ⟨w.heap.size, 0, none⟩) 1 1] (w.alloc (.cells #[.int .i64 N] 3)) fun e w' => e = .returned (.tuple #[.string ⟨(Oc.numB k N.toNat).toArray⟩, .int .i64 0]) ∧ Below w.heap.size w w' := by
  have hI : Oc.Ints (w.alloc (.cells #[.int .i64 N] 3)) (.slice (some ⟨w.heap.size, 0, none⟩) 1 1) [N] := ⟨_, _, rfl, .inr ⟨w.heap.size, 0, rfl, fun i hi => by
    obtain rfl : i = 0 := by simp at hi; exact hi
    simp [go_sem]⟩⟩
  have h := Oc.numS_ok k _ [N] _ hk hk8 (by show 1 ≤ 1000000; decide) hI (fun x hx => by
    rw [List.mem_singleton.1 hx]; exact ⟨h0, h1⟩)
  have e : Oc.numsB k [N] = Oc.numB k N.toNat := by unfold Oc.numsB; simp
  rw [e] at h
  refine h.mono ?_
  rintro en w' ⟨he, hb⟩
  exact ⟨he, ubelow_on hb ((Below.refl _ _).alloc (Nat.le_refl _) _) (Nat.le_refl _)⟩
theorem vtext_two (g t : ByteArray) (hg : g.size ≤ 65535) (ht : t.size ≤ 65535) (w : World) :
    Calls Tryz.prog 77 #[.slice (some ⟨w.heap.size, 0, none⟩) 2 2] (w.alloc (.cells #[.string g, .string t] 9)) fun e w' => e = .returned (.tuple #[.string ⟨(Oc.txtB g ++ Oc.txtB t).toArray⟩, .int .i64 0]) ∧ Below w.heap.size w w' := by
  have hI : Oc.Strs (w.alloc (.cells #[.string g, .string t] 9)) 0 (.slice (some ⟨w.heap.size, 0, none⟩) 2 2) [g, t] := ⟨some ⟨w.heap.size, 0, none⟩, 2, rfl, .inr ⟨_, _, rfl, Nat.zero_le _, fun i hi => by
    rcases (show i = 0 ∨ i = 1 by simp at hi; omega) with rfl | rfl <;> simp⟩⟩
  have h := Oc.textW_ok _ [g, t] _ (by show 2 ≤ 1000; decide) (fun x hx => by
    rcases List.mem_cons.1 hx with rfl | hx
    · exact hg
    · rw [List.mem_singleton.1 hx]; exact ht) hI
  have e : [g, t].flatMap Oc.txtB = Oc.txtB g ++ Oc.txtB t := by simp
  rw [e] at h
  refine h.mono ?_
  rintro en w' ⟨he, hb⟩
  exact ⟨he, ubelow_on hb ((Below.refl _ _).alloc (Nat.le_refl _) _) (Nat.le_refl _)⟩
theorem offB_len (x : OfM) : (offB x).length = x.g.size + x.t.size + 11 := by
  unfold offB
  rw [List.length_append, List.length_append, List.length_append, Oc.txtB_length, Oc.txtB_length, Oc.numB_length, Oc.numB_length]
  omega
theorem oflat_len (l : OL) (h : ∀ t ∈ l, t.g.size ≤ 1000 ∧ t.t.size ≤ 1000) : (l.flatMap offB).length ≤ 2011 * l.length := by
  induction l with
  | nil => simp
  | cons x l ih =>
    rw [List.flatMap_cons, List.length_append, offB_len, List.length_cons]
    have := h x (List.mem_cons_self ..)
    have := ih fun t ht => h t (List.mem_cons_of_mem _ ht)
    omega
theorem obytes_snoc (l : OL) (k : Nat) (x : OfM) (hx : l[k]? = some x) : (l.take (k + 1)).flatMap offB = (l.take k).flatMap offB ++ offB x := by
  have hk := (List.getElem?_eq_some_iff.1 hx).1
  rw [List.take_succ_eq_append_getElem hk, List.flatMap_append]
  have : l[k] = x := (List.getElem?_eq_some_iff.1 hx).2
  rw [this]
  simp
theorem vba_size (l : List UInt8) : (⟨l.toArray⟩ : ByteArray).size = l.length := by show l.toArray.size = _; simp
theorem vba_add (a b : List UInt8) : (⟨a.toArray⟩ : ByteArray) ++ ⟨b.toArray⟩ = ⟨(a ++ b).toArray⟩ := append_toArray a b
def OSz (x : OfM) : Prop := x.g.size ≤ 1000 ∧ x.t.size ≤ 1000 ∧ 0 ≤ x.q ∧ x.q ≤ 255 ∧ 0 ≤ x.a ∧ x.a ≤ 1099511627776
set_option maxHeartbeats 4000000 in
set_option maxRecDepth 100000 in
theorem ooctets_any (v : Value) (l : OL) (w : World) (h : ORow w v l) (hl : l.length ≤ 255) (hs : ∀ t ∈ l, OSz t) :
    Calls Tryz.prog 35 #[v] w fun e w' => e = .returned (.string ⟨(bytesO l).toArray⟩) ∧ Below w.heap.size w w' := by
  have hrow : ∀ w', Below w.heap.size w w' → ORow w' v l := fun w' hb => h.new hb
  obtain ⟨a, cap, rfl⟩ := h.len
  obtain ⟨n, hn⟩ : ∃ n, n = l.length := ⟨_, rfl⟩
  rw [← hn] at hrow hl ⊢
  obtain ⟨b0, hb0⟩ : ∃ b0 : ByteArray, b0 = ⟨(Oc.numB 1 n).toArray⟩ := ⟨_, rfl⟩
  have hN := vnum_one 1 (N := (n : Int)) (by decide) (by decide) (by omega) (by show (n : Int) < 256; omega) w
  rw [Int.toNat_natCast, ← hb0] at hN
  have HN1 := Lib.hid hN
  have HROW := Lib.hid hrow
  have HS := Lib.hid hs
  have HN := Lib.hid hn
  have HB0 := Lib.hid hb0
  have hfl : ∀ k, ((l.take k).flatMap offB).length ≤ 2011 * 255 := fun k => by
    have := oflat_len (l.take k) (fun t ht => ⟨(hs t (List.mem_of_mem_take ht)).1, (hs t (List.mem_of_mem_take ht)).2.1⟩)
    have : (l.take k).length ≤ l.length := by rw [List.length_take]; omega
    omega
  have HFL := Lib.hid hfl
  clear hN hrow hs hn hb0 h hfl
  go_enter Tryz.func35, Tryz.ntmps35
  go_wp2_with fail
  refine HN1.out.mono ?_
  rintro e w1 ⟨rfl, hb1⟩
  have HB1 := Lib.hid hb1
  clear hb1
  go_wp2_with fail
  go_loopw [3, 22] (fun sv i wr => ∃ k : Nat, k ≤ n ∧ i = .int .i64 (k : Int) ∧ (∃ sk : ByteArray, sv = .string sk ∧ Hid (sk = ⟨(Oc.numB 1 n ++ (l.take k).flatMap offB).toArray⟩)) ∧ Hid (Below w.heap.size w wr)) (fun _ i _ => n - (intOf i).toNat)
  case atStart => exact ⟨0, Nat.zero_le _, rfl, ⟨b0, rfl, Lib.hid (by rw [HB0.out]; simp)⟩, HB1⟩
  case round =>
    obtain ⟨k, hk, rfl, ⟨sk, rfl, HSK⟩, HB⟩ := hrel
    by_cases hlt : k < n
    · obtain ⟨x, hx⟩ : ∃ x, l[k]? = some x := ⟨_, List.getElem?_eq_getElem (by rw [← HN.out]; exact hlt)⟩
      obtain ⟨g, rfl, hc⟩ := (HROW.out wr HB.out).at_ hx
      obtain ⟨c0, c1, c2, c3⟩ := hc
      obtain ⟨z1, z2, z3, z4, z5, z6⟩ := HS.out x (List.mem_of_getElem? hx)
      have hsn := obytes_snoc l k x hx
      obtain ⟨x1, x2, x3, x4⟩ := x
      try dsimp only at c0 c1 c2 c3 z1 z2 z3 z4 z5 z6
      have hT := fun W => vtext_two x1 x2 (by omega) (by omega) W
      have hQ := fun W => vnum_one 1 (N := x3) (by decide) (by decide) z3 (by show x3 < 256; omega) W
      have hA := fun W => vnum_one 6 (N := x4) (by decide) (by decide) z5 (by show x4 < 281474976710656; omega) W
      obtain ⟨bt, hbt⟩ : ∃ bt : ByteArray, bt = ⟨(Oc.txtB x1 ++ Oc.txtB x2).toArray⟩ := ⟨_, rfl⟩
      obtain ⟨bq, hbq⟩ : ∃ bq : ByteArray, bq = ⟨(Oc.numB 1 x3.toNat).toArray⟩ := ⟨_, rfl⟩
      obtain ⟨ba, hba⟩ : ∃ ba : ByteArray, ba = ⟨(Oc.numB 6 x4.toNat).toArray⟩ := ⟨_, rfl⟩
      have l1 : bt.size ≤ 4000 := by rw [hbt, vba_size, List.length_append, Oc.txtB_length, Oc.txtB_length]; omega
      have l2 : bq.size ≤ 10 := by rw [hbq, vba_size, Oc.numB_length]; omega
      have l3 : ba.size ≤ 10 := by rw [hba, vba_size, Oc.numB_length]; omega
      have l4 : sk.size ≤ 1000000 := by rw [HSK.out, vba_size, List.length_append, Oc.numB_length]; have := HFL.out k; omega
      have hnext : sk ++ (bt ++ bq ++ ba) = ⟨(Oc.numB 1 n ++ (l.take (k + 1)).flatMap offB).toArray⟩ := by
        rw [HSK.out, hbt, hbq, hba, vba_add, vba_add, vba_add, hsn, List.append_assoc (Oc.numB 1 n)]
        rfl
      obtain ⟨b12, hb12⟩ : ∃ b12, b12 = bt ++ bq := ⟨_, rfl⟩
      have l5 : b12.size ≤ 5000 := by rw [hb12, ByteArray.size_append]; omega
      have hadd1 : ∀ W, (Op.stringOp .add bt bq).run Tryz.prog W = .ok (.string b12) W := fun W => by rw [run_string_add W _ _ (by omega) (by omega), hb12]
      rw [← hb12] at hnext
      obtain ⟨b13, hb13⟩ : ∃ b13, b13 = b12 ++ ba := ⟨_, rfl⟩
      have l6 : b13.size ≤ 6000 := by rw [hb13, ByteArray.size_append]; omega
      have hadd2 : ∀ W, (Op.stringOp .add b12 ba).run Tryz.prog W = .ok (.string b13) W := fun W => by rw [run_string_add W _ _ (by omega) (by omega), hb13]
      rw [← hb13] at hnext
      obtain ⟨sn, hsnn⟩ : ∃ sn, sn = sk ++ b13 := ⟨_, rfl⟩
      have hadd3 : ∀ W, (Op.stringOp .add sk b13).run Tryz.prog W = .ok (.string sn) W := fun W => by rw [run_string_add W _ _ (by omega) (by omega), hsnn]
      rw [← hsnn] at hnext
      rw [← hbt] at hT
      rw [← hbq] at hQ
      rw [← hba] at hA
      obtain ⟨w2, hw2⟩ : ∃ w2, w2 = wr.alloc (.cells #[.string x1, .string x2, .int .i64 x3, .int .i64 x4] 32) := ⟨_, rfl⟩
      obtain ⟨sb, hsb⟩ : ∃ sb, sb = wr.heap.size := ⟨_, rfl⟩
      have hb2 : Below w.heap.size w w2 := by rw [hw2]; exact HB.out.alloc HB.out.size _
      have d0 : w2.cell? ⟨sb, 0, none⟩ = some (.string x1) := by rw [hw2, hsb]; simp [go_sem]
      have d1 : w2.cell? ⟨sb, 1, none⟩ = some (.string x2) := by rw [hw2, hsb]; simp [go_sem]
      have d2 : w2.cell? ⟨sb, 2, none⟩ = some (.int .i64 x3) := by rw [hw2, hsb]; simp [go_sem]
      have d3 : w2.cell? ⟨sb, 3, none⟩ = some (.int .i64 x4) := by rw [hw2, hsb]; simp [go_sem]
      have HT := Lib.hid hT
      have HQ := Lib.hid hQ
      have HA := Lib.hid hA
      have HNX := Lib.hid hnext
      have HW2 := Lib.hid hw2
      have HSB := Lib.hid hsb
      have HB2 := Lib.hid hb2
      have D23 : Hid (∀ W, Below w2.heap.size w2 W → W.cell? ⟨sb, 2, none⟩ = some (.int .i64 x3) ∧ W.cell? ⟨sb, 3, none⟩ = some (.int .i64 x4)) := Lib.hid (fun W hW => ⟨ukeep hW d2, ukeep hW d3⟩)
      have HBR : Hid (Below w2.heap.size w2 w2) := Lib.hid (Below.refl _ _)
      clear hT hQ hA hnext hw2 hsb hb2 hsn hx hbt hbq hba hb12 hb13 hsnn z1 z2 z3 z4 z5 z6 d2 d3
      go_upto_region 5 with fail
      rw [← HW2.out, ← HSB.out]
      go_wp2_with fail
      refine (HT.out _).mono ?_
      rintro e w3 ⟨rfl, hb3⟩
      obtain ⟨e2, e3⟩ := D23.out w3 hb3
      have HB3 := Lib.hid (ubelow_on hb3 HB2.out (Nat.le_refl _))
      have HBR3 := Lib.hid hb3
      clear hb3 d0 d1
      go_wp2_with fail
      refine (HQ.out _).mono ?_
      rintro e w4 ⟨rfl, hb4⟩
      have hb4' := ubelow_on hb4 HBR3.out (Nat.le_refl _)
      obtain ⟨_, f3⟩ := D23.out w4 hb4'
      have HB4 := Lib.hid (ubelow_on hb4 HB3.out (Nat.le_refl _))
      clear hb4 hb4' e2 e3
      go_wp2_with fail
      refine (HA.out _).mono ?_
      rintro e w5 ⟨rfl, hb5⟩
      have HB5 := Lib.hid (ubelow_on hb5 HB4.out (Nat.le_refl _))
      clear hb5 f3
      go_wp2_with fail
      exact ⟨⟨k + 1, by omega, by go_num, ⟨sn, rfl, HNX⟩, HB5⟩, by simp [intOf]; omega⟩
    · have hkn : k = n := by omega
      have HKN := Lib.hid hkn
      clear hkn
      go_wp2_with fail
      go_ret
      have e0 : sk = ⟨(bytesO l).toArray⟩ := by
        rw [HSK.out, HKN.out, HN.out, List.take_length]
        rfl
      rw [e0]
      exact ⟨rfl, HB.out⟩
def tkS (s : ByteArray) (x : Int) : ByteArray × ByteArray × Int := if x = 0 then ((Oc.textS s 16).1, Oc.goS s (Oc.textS s 16).2.1 (Oc.textS s 16).2.2, (Oc.textS s 16).2.2) else (⟨#[]⟩, s, x)
def nkS (k : Nat) (s : ByteArray) (x : Int) : Nat × ByteArray × Int := if x = 0 then ((Oc.numS s k).1, Oc.goS s (Oc.numS s k).2.1 (Oc.numS s k).2.2, (Oc.numS s k).2.2) else (0, s, x)
theorem rtext_any (b : Nat) (s : ByteArray) (x : Int) (w : World) (h : Oc.Rd w b s x) :
    Calls Tryz.prog 57 #[.pointer (some ⟨b, 0, none⟩), .int .i64 16] w fun e w' => e = .returned (.string (tkS s x).1) ∧ Oc.Rd w' b (tkS s x).2.1 (tkS s x).2.2 ∧ w.grownBy w' (some b) := by
  by_cases hx : x = 0
  · subst hx
    have := Oc.text_any b s 16 w h (t := (Oc.textS s 16).1) (rest := (Oc.textS s 16).2.1) (x := (Oc.textS s 16).2.2) rfl
    unfold tkS
    rw [if_pos rfl]
    exact this
  · unfold tkS
    rw [if_neg hx]
    refine (Oc.text_none b s 16 x w h hx).mono ?_
    rintro e w' ⟨he, hw⟩
    subst hw
    exact ⟨he, h, Oc.grownBy_refl _ _⟩
theorem rnum_any (k : Nat) (b : Nat) (s : ByteArray) (x : Int) (w : World) (h : Oc.Rd w b s x) :
    Calls Tryz.prog 56 #[.pointer (some ⟨b, 0, none⟩), .int .i64 (k : Int)] w fun e w' => e = .returned (.int .i64 (nkS k s x).1) ∧ Oc.Rd w' b (nkS k s x).2.1 (nkS k s x).2.2 ∧ w.grownBy w' (some b) := by
  by_cases hx : x = 0
  · subst hx
    have := Oc.num_any b s k w h (v := (Oc.numS s k).1) (rest := (Oc.numS s k).2.1) (x := (Oc.numS s k).2.2) rfl
    unfold nkS
    rw [if_pos rfl]
    exact this
  · unfold nkS
    rw [if_neg hx]
    refine (Oc.num_none b s k x w h hx).mono ?_
    rintro e w' ⟨he, hw⟩
    subst hw
    exact ⟨he, h, Oc.grownBy_refl _ _⟩
theorem cutS_le (s : ByteArray) (n : Nat) : (Oc.cutS s n).1.size ≤ n := by
  unfold Oc.cutS
  rw [if_neg (by omega)]
  split
  · exact Nat.zero_le _
  · show (s.extract 0 (n : Int).toNat).size ≤ n
    rw [ByteArray.size_extract]
    omega
theorem tkS_size (s : ByteArray) (x : Int) : (tkS s x).1.size ≤ 16 := by
  unfold tkS
  split
  · show (Oc.textS s 16).1.size ≤ 16
    unfold Oc.textS
    split
    · split
      · exact Nat.zero_le _
      · have := cutS_le (Oc.numS s 2).2.1 (Oc.numS s 2).1
        omega
    · exact Nat.zero_le _
  · exact Nat.zero_le _
theorem nkS_lt (s : ByteArray) (x : Int) : (nkS 1 s x).1 < 256 := by
  unfold nkS
  split
  · show (Oc.numS s 1).1 < 256
    unfold Oc.numS
    rw [if_pos (by decide)]
    split
    · rename_i hx
      obtain ⟨⟨t, r⟩, hc⟩ : ∃ p : ByteArray × ByteArray, Oc.cutS s 1 = (p.1, p.2, 0) := by
        rcases hq : Oc.cutS s 1 with ⟨t, r, y⟩
        rw [hq] at hx
        simp only at hx
        exact ⟨(t, r), by rw [hx]⟩
      have hsz : (t.size : Int) = 1 := Oc.cutS_size hc
      show Oc.getN (Oc.cutS s 1).1.data.toList < 256
      rw [hc]
      have h1 := Oc.getN_lt t.data.toList
      have : t.data.toList.length = 1 := by rw [text_len]; omega
      rw [this] at h1
      simpa using h1
    · show 0 < 256
      decide
  · show 0 < 256
    decide
def rdG (s : ByteArray) (x : Int) := tkS s x
def rdT (s : ByteArray) (x : Int) := tkS (rdG s x).2.1 (rdG s x).2.2
def rdQ (s : ByteArray) (x : Int) := nkS 1 (rdT s x).2.1 (rdT s x).2.2
def rdA (s : ByteArray) (x : Int) := nkS 6 (rdQ s x).2.1 (rdQ s x).2.2
def rdO (s : ByteArray) (x : Int) : OfM := ⟨(rdG s x).1, (rdT s x).1, ((rdQ s x).1 : Nat), ((rdA s x).1 : Nat)⟩
noncomputable def takeO : Nat → ByteArray → Int → OL → Option OL
  | 0, s, x, l => some l
  | k + 1, s, x, l => if osE l (rdO s x) = 0 then takeO k (rdA s x).2.1 (rdA s x).2.2 (osL l (rdO s x)) else none
noncomputable def takeR (s : ByteArray) : Option OL := match takeO (nkS 1 s 0).1 (nkS 1 s 0).2.1 (nkS 1 s 0).2.2 [] with
  | some l => if bytesO l = s.data.toList then some l else none
  | none => none
theorem topic16 {s : ByteArray} (h : topicB s = true) : s.size ≤ 16 := by
  unfold topicB at h
  rcases Bool.or_eq_true_iff.1 h with h | h
  · unfold isOwn ownB at h
    rcases Bool.or_eq_true_iff.1 h with h | h
    · have h2 := (Bool.and_eq_true_iff.1 h)
      have h3 := has_le h2.1
      have h4 := group8 h2.2
      rw [ByteArray.size_extract] at h4
      have e : retryH.size = 7 := rfl
      omega
    · have h2 := (Bool.and_eq_true_iff.1 h)
      have h3 := has_le h2.1
      have h4 := group8 h2.2
      rw [ByteArray.size_extract] at h4
      have e : deadH.size = 6 := rfl
      omega
  · exact plain16 h
theorem ok_sz {x : OfM} (h : offE x = 0) : x.g.size ≤ 8 ∧ x.t.size ≤ 16 ∧ OSz x := by
  obtain ⟨h1, h2, h3, h4, h5, h6⟩ := offE_zero h
  have := group8 h1
  have := topic16 h2
  exact ⟨by assumption, by assumption, by omega, by omega, h3, by omega, h5, h6⟩
theorem Oc_Rd_chg {S : Nat → Prop} {w w' : World} {b : Nat} {s : ByteArray} {x : Int} (h : Oc.Rd w b s x) (hc : Chg S w w') (hn : ¬ S b) : Oc.Rd w' b s x := hc.heap h hn
theorem vtoList_iff {a b : ByteArray} : (a.toList == b.toList) = true ↔ a = b := by
  constructor
  · intro h; exact byteList_eq (by simpa using h)
  · rintro rfl; simp
def TakeTo (w : World) (ob : Nat) (p : Value) (s : ByteArray) (e : Ending) (w' : World) : Prop :=
  e = .returned (.bool (takeR s).isSome) ∧ Chg (fun k => k = ob) w w' ∧ ∃ v l, OHead w' ob p v l ∧ OOk l ∧ (∀ g, v.ownBlock = some g → w.heap.size ≤ g) ∧ ∀ l', takeR s = some l' → l' = l
structure TkI (w0 : World) (rb ob : Nat) (p : Value) (wr : World) (sR : ByteArray) (xR : Int) (v : Value) (l : OL) : Prop where
  rd : Oc.Rd wr rb sR xR
  head : OHead wr ob p v l
  ok : OOk l
  own : ∀ g, v.ownBlock = some g → w0.heap.size ≤ g
  chg : Chg (fun k => k = ob) w0 wr
theorem TkI.read {w0 w1 w2 : World} {rb ob : Nat} {p v : Value} {sR sN : ByteArray} {xR xN : Int} {l : OL} (h : TkI w0 rb ob p w1 sR xR v l) (hne : rb ≠ ob) (hrb : w0.heap.size ≤ rb) (hr : Oc.Rd w2 rb sN xN) (hg : w1.grownBy w2 (some rb)) : TkI w0 rb ob p w2 sN xN v l := by
  have k1 : Chg (fun k => k = rb) w1 w2 := Chg.of_grown hg (fun k hk _ => by injection hk with hk; exact hk.symm)
  have hap := h.head.row.apart h.rd (by decide)
  exact ⟨hr, ⟨h.head.at_.chg k1 (fun e => hne e.symm), h.head.row.chg k1 (fun g hg e => hap g hg e)⟩, h.ok, h.own, h.chg.trans k1 (fun i hi e => by omega)⟩
theorem TkI.new {w0 w1 w2 : World} {rb ob : Nat} {p v : Value} {sR : ByteArray} {xR : Int} {l : OL} (h : TkI w0 rb ob p w1 sR xR v l) (hb : Below w1.heap.size w1 w2) : TkI w0 rb ob p w2 sR xR v l := by
  have hc : Chg (fun _ => False) w1 w2 := Chg.of_below hb
  exact ⟨Oc_Rd_chg h.rd hc (fun e => e), h.head.new hc, h.ok, h.own, h.chg.trans hc (fun _ _ e => e.elim)⟩
theorem TkI.set {w0 w1 w2 : World} {rb ob : Nat} {p v v' : Value} {sR : ByteArray} {xR : Int} {l : OL} {x : OfM} (h : TkI w0 rb ob p w1 sR xR v l) (hne : rb ≠ ob) (hs : SetTo2 w1 ob p v (osL l x) v' w2) : TkI w0 rb ob p w2 sR xR v' (osL l x) := by
  have hap := h.head.row.apart h.rd (by decide)
  have hz := h.chg.size
  refine ⟨Oc_Rd_chg h.rd hs.chg (fun e => ?_), hs.head, h.ok.set x, fun g hg => ?_, h.chg.trans hs.chg (fun k hk e => ?_)⟩
  · rcases e with e | e
    · exact hne e
    · exact hap rb e rfl
  · rcases hs.own g hg with e | e
    · exact h.own g e
    · omega
  · rcases e with e | e
    · exact e
    · have := h.own k e; omega
theorem rdA_one (s : ByteArray) (x : Int) : (rdO s x).g.size ≤ 16 ∧ (rdO s x).t.size ≤ 16 := ⟨tkS_size _ _, tkS_size _ _⟩
set_option maxHeartbeats 8000000 in
set_option maxRecDepth 100000 in
theorem take_any (ob : Nat) (p : Value) (s : ByteArray) (w : World) (h : OAt w ob p (.slice none 0 0)) (hs : s.size ≤ 1000000) :
    Calls Tryz.prog 28 #[.pointer (some ⟨ob, 0, none⟩), .string s] w (TakeTo w ob p s) := by
  have hol := h.lt
  obtain ⟨rb, hrb⟩ : ∃ rb, rb = w.heap.size := ⟨_, rfl⟩
  obtain ⟨w1, hw1⟩ : ∃ w1, w1 = w.alloc (.cells #[.string s, .int .i64 0] 130) := ⟨_, rfl⟩
  have hb1 : Below w.heap.size w w1 := by rw [hw1]; exact (Below.refl _ _).alloc (Nat.le_refl _) _
  have hr1 : Oc.Rd w1 rb s 0 := by rw [hw1, hrb]; exact heap_alloc_new w _
  have hne : rb ≠ ob := by omega
  have hrw : w.heap.size ≤ rb := by omega
  have hi1 : TkI w rb ob p w1 s 0 (.slice none 0 0) [] := by
    have hc : Chg (fun _ => False) w w1 := Chg.of_below hb1
    exact ⟨hr1, ⟨h.chg hc (fun e => e), ORow.nil _⟩, OOk.nil, fun g hg => (by cases hg), hc.wide (fun _ _ e => e.elim)⟩
  have hN := rnum_any 1 rb s 0 w1 hr1
  obtain ⟨c, hc⟩ : ∃ c, c = (nkS 1 s 0).1 := ⟨_, rfl⟩
  obtain ⟨s1, hs1⟩ : ∃ s1, s1 = (nkS 1 s 0).2.1 := ⟨_, rfl⟩
  obtain ⟨x1, hx1⟩ : ∃ x1, x1 = (nkS 1 s 0).2.2 := ⟨_, rfl⟩
  have hclt : c < 256 := by rw [hc]; exact nkS_lt s 0
  rw [← hc, ← hs1, ← hx1] at hN
  have hTR : ∀ r, takeR s = r → r = (match takeO c s1 x1 [] with
    | some l => if bytesO l = s.data.toList then some l else none
    | none => none) := fun r hr => by rw [← hr, hc, hs1, hx1]; rfl
  obtain ⟨tr, htr⟩ : ∃ tr, takeR s = tr := ⟨_, rfl⟩
  have hT0 := hTR tr htr
  unfold TakeTo
  rw [htr]
  have HN := Lib.hid hN
  have HT0 := Lib.hid hT0
  have HW1 := Lib.hid hw1
  have HRB := Lib.hid hrb
  have HNE := Lib.hid hne
  have HRW := Lib.hid hrw
  have HI1 := Lib.hid hi1
  clear hN hT0 hw1 hrb hb1 hr1 hc hs1 hx1 hTR htr h hs hne hrw hi1 hol
  go_enter Tryz.func28, Tryz.ntmps28
  go_wp2_with fail
  refine (Oc.new_any s w).mono ?_
  rintro e wn ⟨rfl, rfl⟩
  rw [← HW1.out, ← HRB.out]
  go_wp2_with fail
  refine HN.out.mono ?_
  rintro e w2 ⟨rfl, hr2, hg2⟩
  have HI2 := Lib.hid (HI1.out.read HNE.out HRW.out hr2 hg2)
  clear hr2 hg2
  go_wp2_with fail
  go_loopw [11] (fun i wr => ∃ k : Nat, k ≤ c ∧ i = .int .i64 (k : Int) ∧ ∃ sR xR v l, Hid (TkI w rb ob p wr sR xR v l) ∧ Hid (takeO c s1 x1 [] = takeO (c - k) sR xR l)) (fun i _ => c - (intOf i).toNat)
  case atStart => exact ⟨0, Nat.zero_le _, rfl, s1, x1, .slice none 0 0, [], HI2, Lib.hid (by rw [Nat.sub_zero])⟩
  case round =>
    obtain ⟨k, hk, rfl, sR, xR, v, l, HI, HTK⟩ := hrel
    by_cases hlt : k < c
    · have hstep : takeO (c - k) sR xR l = if osE l (rdO sR xR) = 0 then takeO (c - (k + 1)) (rdA sR xR).2.1 (rdA sR xR).2.2 (osL l (rdO sR xR)) else none := by
        have e : c - k = (c - (k + 1)) + 1 := by omega
        rw [e]
        rfl
      have hG := rtext_any rb sR xR wr HI.out.rd
      have hT := fun W (hW : Oc.Rd W rb (rdG sR xR).2.1 (rdG sR xR).2.2) => rtext_any rb _ _ W hW
      have hQ := fun W (hW : Oc.Rd W rb (rdT sR xR).2.1 (rdT sR xR).2.2) => rnum_any 1 rb _ _ W hW
      have hA := fun W (hW : Oc.Rd W rb (rdQ sR xR).2.1 (rdQ sR xR).2.2) => rnum_any 6 rb _ _ W hW
      obtain ⟨hz1, hz2⟩ := rdA_one sR xR
      have hset : ∀ W sN xN, TkI w rb ob p W sN xN v l → Calls Tryz.prog 12 #[.pointer (some ⟨ob, 0, none⟩), .agg (oenc (rdO sR xR)).toArray] W fun e w' => e = .returned (.int .i64 (osE l (rdO sR xR))) ∧ ∃ v', TkI w rb ob p w' sN xN v' (osL l (rdO sR xR)) := fun W sN xN hi => by
        refine (set_any (rdO sR xR) hi.head hi.ok.ris hi.ok.len (by unfold maxLen; omega) (by unfold maxLen; omega)).mono ?_
        rintro e w' ⟨he, v', h2⟩
        exact ⟨he, v', hi.set HNE.out h2⟩
      unfold oenc at hset
      have hx : rdO sR xR = ⟨(rdG sR xR).1, (rdT sR xR).1, ((rdQ sR xR).1 : Nat), ((rdA sR xR).1 : Nat)⟩ := rfl
      change Calls Tryz.prog _ _ _ (fun e w' => e = .returned (.string (rdG sR xR).1) ∧ Oc.Rd w' rb (rdG sR xR).2.1 (rdG sR xR).2.2 ∧ wr.grownBy w' (some rb)) at hG
      change ∀ W, _ → Calls Tryz.prog _ _ W (fun e w' => e = .returned (.string (rdT sR xR).1) ∧ Oc.Rd w' rb (rdT sR xR).2.1 (rdT sR xR).2.2 ∧ W.grownBy w' (some rb)) at hT
      change ∀ W, _ → Calls Tryz.prog _ _ W (fun e w' => e = .returned (.int .i64 (rdQ sR xR).1) ∧ Oc.Rd w' rb (rdQ sR xR).2.1 (rdQ sR xR).2.2 ∧ W.grownBy w' (some rb)) at hQ
      change ∀ W, _ → Calls Tryz.prog _ _ W (fun e w' => e = .returned (.int .i64 (rdA sR xR).1) ∧ Oc.Rd w' rb (rdA sR xR).2.1 (rdA sR xR).2.2 ∧ W.grownBy w' (some rb)) at hA
      obtain ⟨er, her⟩ : ∃ er, er = osE l (rdO sR xR) := ⟨_, rfl⟩
      obtain ⟨l2, hl2⟩ : ∃ l2, l2 = osL l (rdO sR xR) := ⟨_, rfl⟩
      rw [← her, ← hl2] at hstep
      rw [← her, ← hl2] at hset
      rw [hx] at hset
      clear hx her hl2 hz1 hz2
      generalize (rdA sR xR) = RA at *
      generalize (rdQ sR xR) = RQ at *
      generalize (rdT sR xR) = RT at *
      generalize (rdG sR xR) = RG at *
      obtain ⟨g1, g2, g3⟩ := RG
      obtain ⟨t1, t2, t3⟩ := RT
      obtain ⟨q1, q2, q3⟩ := RQ
      obtain ⟨a1, a2, a3⟩ := RA
      try dsimp only at hG hT hQ hA hstep hset
      have HG := Lib.hid hG
      have HT := Lib.hid hT
      have HQ := Lib.hid hQ
      have HA := Lib.hid hA
      have HST := Lib.hid hstep
      have HSET := Lib.hid hset
      clear hG hT hQ hA hstep hset
      go_wp2_with fail
      refine HG.out.mono ?_
      rintro e w3 ⟨rfl, hr3, hg3⟩
      have HI3 := Lib.hid (HI.out.read HNE.out HRW.out hr3 hg3)
      clear hr3 hg3
      go_wp2_with fail
      refine (HT.out w3 HI3.out.rd).mono ?_
      rintro e w4 ⟨rfl, hr4, hg4⟩
      have HI4 := Lib.hid (HI3.out.read HNE.out HRW.out hr4 hg4)
      clear hr4 hg4
      go_wp2_with fail
      refine (HQ.out w4 HI4.out.rd).mono ?_
      rintro e w5 ⟨rfl, hr5, hg5⟩
      have HI5 := Lib.hid (HI4.out.read HNE.out HRW.out hr5 hg5)
      clear hr5 hg5
      go_wp2_with fail
      refine (HA.out w5 HI5.out.rd).mono ?_
      rintro e w6 ⟨rfl, hr6, hg6⟩
      have HI6 := Lib.hid (HI5.out.read HNE.out HRW.out hr6 hg6)
      clear hr6 hg6
      obtain ⟨w7, hw7⟩ : ∃ w7, w7 = w6.alloc (.cells #[.string g1, .string t1, .int .i64 (q1 : Int), .int .i64 (a1 : Int)] 32) := ⟨_, rfl⟩
      obtain ⟨sb, hsb⟩ : ∃ sb, sb = w6.heap.size := ⟨_, rfl⟩
      have hb7 : Below w6.heap.size w6 w7 := by rw [hw7]; exact (Below.refl _ _).alloc (Nat.le_refl _) _
      have d0 : w7.cell? ⟨sb, 0, none⟩ = some (.string g1) := by rw [hw7, hsb]; simp [go_sem]
      have d1 : w7.cell? ⟨sb, 1, none⟩ = some (.string t1) := by rw [hw7, hsb]; simp [go_sem]
      have d2 : w7.cell? ⟨sb, 2, none⟩ = some (.int .i64 (q1 : Int)) := by rw [hw7, hsb]; simp [go_sem]
      have d3 : w7.cell? ⟨sb, 3, none⟩ = some (.int .i64 (a1 : Int)) := by rw [hw7, hsb]; simp [go_sem]
      have HI7 := Lib.hid (HI6.out.new hb7)
      have HS7 := Lib.hid (HSET.out w7 _ _ HI7.out)
      have HW7 := Lib.hid hw7
      have HSB := Lib.hid hsb
      clear hw7 hsb hb7
      go_upto_region 5 with fail
      rw [← HW7.out, ← HSB.out]
      go_wp2_with fail
      refine HS7.out.mono ?_
      rintro e w8 ⟨rfl, v', h8⟩
      have HI8 := Lib.hid h8
      clear h8 d0 d1 d2 d3
      by_cases hz : er = 0
      · subst hz
        go_wp2_with fail
        exact ⟨⟨k + 1, by omega, by go_num, _, _, v', l2, HI8, Lib.hid (by rw [HTK.out, HST.out]; simp)⟩, by simp [intOf]; omega⟩
      · have hz2 : (er != 0) = true := by simpa using hz
        have HZ := Lib.hid hz
        clear hz
        go_wp2_with fail
        go_ret
        have htr0 : tr = none := by rw [HT0.out, HTK.out, HST.out, if_neg HZ.out]
        rw [htr0]
        exact ⟨rfl, HI8.out.chg, v', l2, HI8.out.head, HI8.out.ok, HI8.out.own, fun l' h => by cases h⟩
    · have hkn : k = c := by omega
      have htk := HTK.out
      rw [hkn, Nat.sub_self] at htk
      have htr1 : tr = if bytesO l = s.data.toList then some l else none := by rw [HT0.out, htk]; rfl
      have hoc := ooctets_any v l wr HI.out.head.row (by have := HI.out.ok.len; omega) (fun t ht => (ok_sz (HI.out.ok.ok t ht)).2.2)
      have hc1 := HI.out.head.at_.c1
      obtain ⟨bo, hbo⟩ : ∃ bo : ByteArray, bo = ⟨(bytesO l).toArray⟩ := ⟨_, rfl⟩
      rw [← hbo] at hoc
      have hiff : (bo.toList == s.toList) = decide (bytesO l = s.data.toList) := by
        rw [Bool.eq_iff_iff, vtoList_iff, decide_eq_true_iff, hbo]
        constructor
        · intro e; rw [← e]
        · intro e; rw [e]
      have HOC := Lib.hid hoc
      have HTR := Lib.hid htr1
      have HIF := Lib.hid hiff
      clear hkn htk hbo hoc htr1 hiff
      go_wp2_with fail
      refine HOC.out.mono ?_
      rintro e w3 ⟨rfl, hb3⟩
      have HI3 := Lib.hid (HI.out.new hb3)
      clear hb3 hc1
      go_wp2_with fail
      go_ret
      by_cases hbz : bytesO l = s.data.toList
      · have e1 : tr = some l := by rw [HTR.out, if_pos hbz]
        rw [e1]
        exact ⟨(by (rw [HIF.out]) <;> simp [hbz]), HI3.out.chg, v, l, HI3.out.head, HI3.out.ok, HI3.out.own, fun l' h => by injection h with h; exact h.symm⟩
      · have e1 : tr = none := by rw [HTR.out, if_neg hbz]
        rw [e1]
        exact ⟨(by (rw [HIF.out]) <;> simp [hbz]), HI3.out.chg, v, l, HI3.out.head, HI3.out.ok, HI3.out.own, fun l' h => by cases h⟩
def grpF : ByteArray := ⟨#[103, 114, 111, 117, 112, 115]⟩
noncomputable def openE (st : St) : Int := if (loadR st grpF).2.2 ≠ 0 then (loadR st grpF).2.2 else if (loadR st grpF).2.1 = true then (if (takeR (loadR st grpF).1).isSome = true then 0 else 4) else 0
noncomputable def openT (st : St) : OL := if (loadR st grpF).2.1 = true then (takeR (loadR st grpF).1).getD [] else []
def OpenP (g : Gh) (E : Int) (T : OL) (w : World) (e : Ending) (w' : World) : Prop := Below w.heap.size w w' ∧
  (E ≠ 0 → e = .returned (.tuple #[.pointer none, .int .i64 E])) ∧
  (E = 0 → ∃ tb v, e = .returned (.tuple #[.pointer (some ⟨tb, 0, none⟩), .int .i64 0]) ∧ w.heap.size ≤ tb ∧ OHead w' tb (.pointer (some ⟨g.d, 0, none⟩)) v T ∧ ∀ q, v.ownBlock = some q → w.heap.size ≤ q)
noncomputable def OpenTo (g : Gh) (st : St) : World → Ending → World → Prop := OpenP g (openE st) (openT st)
theorem openS_size (s : ByteArray) : (Cr.openS s).size ≤ s.size := by
  unfold Cr.openS
  split
  · rw [ByteArray.size_extract]; omega
  · exact Nat.zero_le _
theorem loadR_size {st : St} {nm : ByteArray} (h : ∀ f, st.find nm = some f → f.bytes.length ≤ 1000000) : (loadR st nm).1.size ≤ 1000000 := by
  unfold loadR
  split
  · exact Nat.zero_le _
  · split
    · exact Nat.zero_le _
    · rename_i f hf
      split
      · refine Nat.le_trans (openS_size _) ?_
        rw [vba_size]
        exact h f hf
      · exact Nat.zero_le _
set_option maxHeartbeats 2000000 in
theorem open_any {g : Gh} {st : St} {w : World} (h : DiskAt w g st) (hs : ∀ f, st.find grpF = some f → f.bytes.length ≤ 1000000) :
    Calls Tryz.prog 9 #[.pointer (some ⟨g.d, 0, none⟩)] w (OpenTo g st w) := by
  have hL := load_any grpF h (by show 6 ≤ maxLen; unfold maxLen; omega) hs
  have hsz := loadR_size hs
  unfold LoadTo at hL
  have hE : openE st = if (loadR st grpF).2.2 ≠ 0 then (loadR st grpF).2.2 else if (loadR st grpF).2.1 = true then (if (takeR (loadR st grpF).1).isSome = true then 0 else 4) else 0 := rfl
  have hT : openT st = if (loadR st grpF).2.1 = true then (takeR (loadR st grpF).1).getD [] else [] := rfl
  unfold OpenTo
  rw [hE, hT]
  obtain ⟨s, hs2⟩ : ∃ s, s = (loadR st grpF).1 := ⟨_, rfl⟩
  obtain ⟨th, hth⟩ : ∃ th, th = (loadR st grpF).2.1 := ⟨_, rfl⟩
  obtain ⟨er, her⟩ : ∃ er, er = (loadR st grpF).2.2 := ⟨_, rfl⟩
  rw [← hs2] at hsz
  rw [← hs2, ← hth, ← her] at hL ⊢
  have HL := Lib.hid hL
  clear hL hE hT hs2 hth her h hs
  obtain ⟨T, hT⟩ : ∃ T, T = (if th = true then (takeR s).getD [] else []) := ⟨_, rfl⟩
  rw [← hT]
  by_cases he : er = 0
  · subst he
    rw [if_neg (by simp)]
    cases th with
    | false =>
      rw [if_neg (by simp)] at hT
      rw [if_neg (by simp)]
      subst hT
      go_enter Tryz.func9, Tryz.ntmps9
      go_wp2_with fail
      refine HL.out.mono ?_
      rintro e w2 ⟨rfl, hb2⟩
      have HB2 := Lib.hid hb2
      clear hb2
      go_wp2_with fail
      go_ret2
      refine ⟨HB2.out.alloc HB2.out.size _, fun h => absurd rfl h, fun _ => ⟨_, _, rfl, HB2.out.size, ⟨heap_alloc_new _ _, ORow.nil _⟩, fun q hq => by cases hq⟩⟩
    | true =>
      rw [if_pos rfl] at hT
      rw [if_pos rfl]
      have hTK : ∀ W, Below w.heap.size w W → Calls Tryz.prog 28 #[.pointer (some ⟨W.heap.size, 0, none⟩), .string s] (W.alloc (.cells #[.pointer (some ⟨g.d, 0, none⟩), .slice none 0 0] 63)) fun e w' => e = .returned (.bool (takeR s).isSome) ∧ Below w.heap.size w w' ∧ ∃ v l, OHead w' W.heap.size (.pointer (some ⟨g.d, 0, none⟩)) v l ∧ (∀ q, v.ownBlock = some q → w.heap.size ≤ q) ∧ ∀ l', takeR s = some l' → l' = l := fun W hW => by
        refine (take_any W.heap.size (.pointer (some ⟨g.d, 0, none⟩)) s _ (heap_alloc_new W _) hsz).mono ?_
        rintro e w' ⟨he, hc, v, l, a1, _, a3, a4⟩
        have hz := hW.size
        refine ⟨he, ?_, v, l, a1, fun q hq => ?_, a4⟩
        · have h1 : Below w.heap.size w (W.alloc (.cells #[.pointer (some ⟨g.d, 0, none⟩), .slice none 0 0] 63)) := hW.alloc hz _
          refine h1.trans (hc.below (fun k _ e => by omega) ?_)
          rw [World.size_alloc]; omega
        · have := a3 q hq
          rw [World.size_alloc] at this
          omega
      obtain ⟨r, hr⟩ : ∃ r, r = takeR s := ⟨_, rfl⟩
      rw [← hr] at hTK hT ⊢
      have HTK := Lib.hid hTK
      clear hTK hr hsz
      cases r with
      | none =>
        rw [if_neg (by simp)]
        clear hT
        go_enter Tryz.func9, Tryz.ntmps9
        go_wp2_with fail
        refine HL.out.mono ?_
        rintro e w2 ⟨rfl, hb2⟩
        have HK2 := Lib.hid (HTK.out w2 hb2)
        clear hb2
        go_wp2_with fail
        refine HK2.out.mono ?_
        rintro e w3 ⟨rfl, hb3, _⟩
        have HB3 := Lib.hid hb3
        clear hb3
        go_wp2_with fail
        go_ret2
        exact ⟨HB3.out, fun _ => rfl, fun h => by cases h⟩
      | some l0 =>
        rw [if_pos (by simp)]
        obtain rfl : T = l0 := hT
        go_enter Tryz.func9, Tryz.ntmps9
        go_wp2_with fail
        refine HL.out.mono ?_
        rintro e w2 ⟨rfl, hb2⟩
        have HK2 := Lib.hid (HTK.out w2 hb2)
        have HZ := Lib.hid hb2.size
        clear hb2
        go_wp2_with fail
        refine HK2.out.mono ?_
        rintro e w3 ⟨rfl, hb3, v, l, a1, a3, a4⟩
        have HB3 : Hid (Below w.heap.size w w3 ∧ OHead w3 w2.heap.size (.pointer (some ⟨g.d, 0, none⟩)) v T ∧ ∀ q, v.ownBlock = some q → w.heap.size ≤ q) := Lib.hid ⟨hb3, (a4 T rfl) ▸ a1, a3⟩
        clear hb3 a1 a3 a4
        go_wp2_with fail
        go_ret2
        exact ⟨HB3.out.1, fun h => absurd rfl h, fun _ => ⟨_, v, rfl, HZ.out, HB3.out.2.1, HB3.out.2.2⟩⟩
  · have he2 : (er != 0) = true := by simpa using he
    rw [if_pos he]
    have HE := Lib.hid he
    clear he hT
    go_enter Tryz.func9, Tryz.ntmps9
    go_wp2_with fail
    refine HL.out.mono ?_
    rintro e w2 ⟨rfl, hb2⟩
    have HB2 := Lib.hid hb2
    clear hb2
    go_wp2_with fail
    go_ret2
    exact ⟨HB2.out, fun _ => rfl, fun h => absurd h HE.out⟩
end Go.Proofs.YtemimmnamajooaaGreat
namespace Go.Proofs.YtemimmnamajooaaGreat
open Go.RowKit Go.Deep
open Classical
theorem insR_last {x : OfM} : ∀ {l : OL}, (∀ y ∈ l, oLess y x) → insR x l = l ++ [x]
  | [], _ => rfl
  | y :: l, h => by
    have e2 : insR x (y :: l) = y :: insR x l := by show (if oLess y x then _ else _) = _; rw [if_pos (h y (List.mem_cons_self ..))]
    rw [e2, insR_last fun z hz => h z (List.mem_cons_of_mem _ hz)]
    rfl
theorem hasO_last {x : OfM} : ∀ {l : OL}, (∀ y ∈ l, oLess y x) → hasO l x = false
  | [], _ => rfl
  | y :: l, h => by
    rw [hasO_less (h y (List.mem_cons_self ..))]
    exact hasO_last fun z hz => h z (List.mem_cons_of_mem _ hz)
theorem os_last {l : OL} {x : OfM} (h : OOk (l ++ [x])) : osE l x = 0 ∧ osL l x = l ++ [x] := by
  have hl : ∀ y ∈ l, oLess y x := fun y hy => (List.pairwise_append.1 h.ris).2.2 y hy x (by simp)
  have h0 : offE x = 0 := h.ok x (by simp)
  have hlen := h.len
  rw [List.length_append] at hlen
  have hE : osE l x = 0 := by
    unfold osE
    rw [if_neg (by simp [h0]), hasO_last hl, if_neg (by simp), if_neg (by simp at hlen; omega)]
  exact ⟨hE, by unfold osL; rw [if_pos hE, putO_eq, insR_last hl]⟩
theorem OOk.head {a b : OL} (h : OOk (a ++ b)) : OOk a := ⟨(List.pairwise_append.1 h.ris).1, by have := h.len; rw [List.length_append] at this; omega, fun y hy => h.ok y (by simp [hy])⟩
theorem rdO_back {x : OfM} (h0 : offE x = 0) (r : List UInt8) : rdO ⟨(offB x ++ r).toArray⟩ 0 = x ∧ (rdA ⟨(offB x ++ r).toArray⟩ 0).2 = (⟨r.toArray⟩, 0) := by
  obtain ⟨z1, z2, z3, z4, z5, z6, z7, z8⟩ := ok_sz h0
  obtain ⟨hn1, hn2, hn3, hn4, hn5, hn6⟩ := offE_zero h0
  have e0 : offB x ++ r = Oc.txtB x.g ++ (Oc.txtB x.t ++ (Oc.numB 1 x.q.toNat ++ (Oc.numB 6 x.a.toNat ++ r))) := by unfold offB; simp only [List.append_assoc]
  have e1 : rdG ⟨(offB x ++ r).toArray⟩ 0 = (x.g, ⟨(Oc.txtB x.t ++ (Oc.numB 1 x.q.toNat ++ (Oc.numB 6 x.a.toNat ++ r))).toArray⟩, 0) := by
    unfold rdG tkS
    rw [e0, if_pos rfl, Oc.textS_read x.g _ 16 (by omega) (by omega)]
    rfl
  have e2 : rdT ⟨(offB x ++ r).toArray⟩ 0 = (x.t, ⟨(Oc.numB 1 x.q.toNat ++ (Oc.numB 6 x.a.toNat ++ r)).toArray⟩, 0) := by
    unfold rdT
    rw [e1]
    unfold tkS
    simp only
    rw [if_pos trivial, Oc.textS_read x.t _ 16 (by omega) (by omega)]
    rfl
  have e3 : rdQ ⟨(offB x ++ r).toArray⟩ 0 = (x.q.toNat, ⟨(Oc.numB 6 x.a.toNat ++ r).toArray⟩, 0) := by
    unfold rdQ
    rw [e2]
    unfold nkS
    simp only
    rw [if_pos trivial, Oc.numS_read 1 x.q.toNat (by decide) (by decide) (by omega) _]
    rfl
  have e4 : rdA ⟨(offB x ++ r).toArray⟩ 0 = (x.a.toNat, ⟨r.toArray⟩, 0) := by
    unfold rdA
    rw [e3]
    unfold nkS
    simp only
    rw [if_pos trivial, Oc.numS_read 6 x.a.toNat (by decide) (by decide) (by show x.a.toNat < 281474976710656; omega) _]
    rfl
  refine ⟨?_, by rw [e4]⟩
  unfold rdO
  rw [e1, e2, e3, e4]
  obtain ⟨x1, x2, x3, x4⟩ := x
  have q1 : ((x3.toNat : Nat) : Int) = x3 := by simp only at hn3; omega
  have q2 : ((x4.toNat : Nat) : Int) = x4 := by simp only at hn5; omega
  simp only
  rw [q1, q2]
theorem takeO_back : ∀ (r acc : OL), OOk (acc ++ r) → takeO r.length ⟨(r.flatMap offB).toArray⟩ 0 acc = some (acc ++ r)
  | [], acc, h => by unfold takeO; simp
  | t :: r, acc, h => by
    have h2 : OOk ((acc ++ [t]) ++ r) := by rw [List.append_assoc]; exact h
    obtain ⟨e1, e2⟩ := os_last h2.head
    obtain ⟨e3, e4⟩ := rdO_back (x := t) (h.ok t (by simp)) (r.flatMap offB)
    have ih := takeO_back r (acc ++ [t]) h2
    show takeO (r.length + 1) _ 0 acc = _
    unfold takeO
    rw [List.flatMap_cons, e3, if_pos e1, e4, e2]
    rw [ih, List.append_assoc]
    rfl
theorem takeR_back {l : OL} (h : OOk l) : takeR ⟨(bytesO l).toArray⟩ = some l := by
  have hl := h.len
  have e : nkS 1 ⟨(bytesO l).toArray⟩ 0 = (l.length, ⟨(l.flatMap offB).toArray⟩, 0) := by
    unfold nkS bytesO
    rw [if_pos rfl, Oc.numS_read 1 l.length (by decide) (by decide) (by omega) (l.flatMap offB)]
    rfl
  unfold takeR
  rw [e]
  simp only
  rw [takeO_back l [] (by rw [List.nil_append]; exact h)]
  simp only [List.nil_append]
  rw [if_pos trivial]
def sealO (l : OL) : ByteArray := ⟨(Cr.sealB ⟨(bytesO l).toArray⟩).toArray⟩
theorem sealO_len {l : OL} (h : OOk l) : (sealO l).size ≤ 2245 ∧ 5 ≤ (sealO l).size := by
  have hf : ∀ l : OL, AllOk l → (l.flatMap offB).length ≤ 35 * l.length := by
    intro l hl
    induction l with
    | nil => simp
    | cons x l ih =>
      rw [List.flatMap_cons, List.length_append, offB_len, List.length_cons]
      obtain ⟨a, b, _⟩ := ok_sz (hl x (by simp))
      have := ih fun t ht => hl t (by simp [ht])
      omega
  have := hf l h.ok
  have := h.len
  unfold sealO
  rw [vba_size, Cr.sealB_length, vba_size]
  unfold bytesO
  rw [List.length_append, Oc.numB_length]
  omega
theorem vba_of (b : ByteArray) : (⟨b.data.toList.toArray⟩ : ByteArray) = b := by
  cases b
  simp
def SavedO (st : St) (l : OL) : Prop := (l = [] ∧ st.find grpF = none) ∨ HasF st grpF (sealO l)
theorem SavedO.open_ {st : St} {l : OL} (h : SavedO st l) (hl : OOk l) (hd : st.down = false) : openE st = 0 ∧ openT st = l ∧ ∀ f, st.find grpF = some f → f.bytes.length ≤ 1000000 := by
  rcases h with ⟨rfl, hn⟩ | ⟨F, hF, hb, _⟩
  · have e : loadR st grpF = (⟨#[]⟩, false, 0) := by unfold loadR; rw [if_neg (by rw [hd]; simp), hn]
    refine ⟨?_, ?_, fun f hf => by rw [hn] at hf; cases hf⟩
    · unfold openE; rw [e]; rfl
    · unfold openT; rw [e]; rfl
  · have e : loadR st grpF = (⟨(bytesO l).toArray⟩, true, 0) := by
      unfold loadR
      rw [if_neg (by rw [hd]; simp), hF]
      simp only
      rw [hb, vba_of]
      unfold sealO
      rw [Cr.sealed_opens, if_pos rfl, Cr.sealed_back]
    refine ⟨?_, ?_, fun f hf => ?_⟩
    · unfold openE; rw [e]; simp only; rw [takeR_back hl]; rfl
    · unfold openT; rw [e]; simp only; rw [takeR_back hl]; rfl
    · rw [hF] at hf
      injection hf with hf
      rw [← hf, hb, text_len]
      have := (sealO_len hl).1
      omega
theorem grpF_ne : grpF ≠ freshB grpF := by decide
end Go.Proofs.YtemimmnamajooaaGreat
namespace Go.Proofs.YtemimmnamajooaaGreat
open Go.RowKit Go.Deep
structure OI (w : World) (g : Gh) (st : St) (ob : Nat) (v : Value) (l : OL) : Prop where
  disk : DiskAt w g st
  head : OHead w ob (.pointer (some ⟨g.d, 0, none⟩)) v l
  outT : ob ∉ g.fp
  outV : ∀ k, v.ownBlock = some k → k ∉ g.fp
def OS (g : Gh) (ob : Nat) (v : Value) (k : Nat) : Prop := k ∈ g.fp ∨ k = ob ∨ v.ownBlock = some k
structure OTo (g g' : Gh) (ob : Nat) (v v' : Value) (w w' : World) : Prop where
  chg : Chg (OS g ob v) w w'
  fp : ∀ k ∈ g'.fp, k ∈ g.fp ∨ w.heap.size ≤ k
  own : ∀ k, v'.ownBlock = some k → v.ownBlock = some k ∨ w.heap.size ≤ k
  d : g'.d = g.d
theorem OI.new {w w' : World} {g : Gh} {st : St} {ob : Nat} {v : Value} {l : OL} (h : OI w g st ob v l) (hc : Chg (fun _ => False) w w') : OI w' g st ob v l :=
  ⟨h.disk.new hc, h.head.new hc, h.outT, h.outV⟩
theorem OI.on {w w' : World} {g g' : Gh} {st st' : St} {ob : Nat} {v : Value} {l : OL} (h : OI w g st ob v l) (hd : DiskAt w' g' st') (ht : Gh.To w g g' w') : OI w' g' st' ob v l ∧ OTo g g' ob v v w w' := by
  have hout : ∀ k, k ∉ g.fp → k < w.heap.size → k ∉ g'.fp := fun k hk hl hx => by
    rcases ht.fp k hx with a | a
    · exact hk a
    · omega
  refine ⟨⟨hd, ⟨?_, h.head.row.chg ht.chg (fun k hk => h.outV k hk)⟩, hout ob h.outT h.head.at_.lt, fun k hk => hout k (h.outV k hk) (h.head.row.lt k hk)⟩, ⟨ht.chg.wide (fun _ _ e => .inl e), ht.fp, fun k hk => .inl hk, ht.d⟩⟩
  have := h.head.at_.chg ht.chg h.outT
  rw [ht.d]; exact this
theorem OI.set {w w' : World} {g : Gh} {st : St} {ob : Nat} {v v' : Value} {l l' : OL} (h : OI w g st ob v l) (hs : SetTo2 w ob (.pointer (some ⟨g.d, 0, none⟩)) v l' v' w') : OI w' g st ob v' l' ∧ OTo g g ob v v' w w' := by
  refine ⟨⟨h.disk.chg hs.chg (fun k hk e => ?_), hs.head, h.outT, fun k hk hx => ?_⟩, ⟨hs.chg.wide (fun k _ e => .inr e), fun k hk => .inl hk, hs.own, rfl⟩⟩
  · rcases e with e | e
    · exact h.outT (e ▸ hk)
    · exact h.outV k e hk
  · rcases hs.own k hk with e | e
    · exact h.outV k e hx
    · have := h.disk.lt k hx; omega
structure NI (w0 w : World) (g : Gh) (st : St) (ob : Nat) (v : Value) (l : OL) : Prop where
  oi : OI w g st ob v l
  chg : Chg (fun _ => False) w0 w
  low : ∀ k, OS g ob v k → w0.heap.size ≤ k
theorem NI.new {w0 w w' : World} {g : Gh} {st : St} {ob : Nat} {v : Value} {l : OL} (h : NI w0 w g st ob v l) (hc : Chg (fun _ => False) w w') : NI w0 w' g st ob v l := ⟨h.oi.new hc, h.chg.trans hc (fun _ _ e => e), h.low⟩
theorem NI.to {w0 w w' : World} {g g' : Gh} {st st' : St} {ob : Nat} {v v' : Value} {l l' : OL} (h : NI w0 w g st ob v l) (h' : OI w' g' st' ob v' l') (ht : OTo g g' ob v v' w w') : NI w0 w' g' st' ob v' l' := by
  have hz := h.chg.size
  refine ⟨h', h.chg.trans ht.chg (fun i hi hx => by have := h.low i hx; omega), fun k hk => ?_⟩
  rcases hk with hk | hk | hk
  · rcases ht.fp k hk with a | a
    · exact h.low k (.inl a)
    · omega
  · exact h.low k (.inr (.inl hk))
  · rcases ht.own k hk with a | a
    · exact h.low k (.inr (.inr a))
    · omega
theorem NI.below {w0 w : World} {g : Gh} {st : St} {ob : Nat} {v : Value} {l : OL} (h : NI w0 w g st ob v l) : Below w0.heap.size w0 w := h.chg.below (fun _ _ e => e.elim) (Nat.le_refl _)
theorem NI.open_ {w0 w w' : World} {g : Gh} {st : St} {ob : Nat} {v : Value} {l : OL} (hd : DiskAt w g st) (hc : Chg (fun _ => False) w0 w) (hl : ∀ k ∈ g.fp, w0.heap.size ≤ k) (hb : Below w.heap.size w w') (h1 : w.heap.size ≤ ob) (h2 : OHead w' ob (.pointer (some ⟨g.d, 0, none⟩)) v l) (h4 : ∀ q, v.ownBlock = some q → w.heap.size ≤ q) : NI w0 w' g st ob v l := by
  have hk : Chg (fun _ => False) w w' := Chg.of_below hb
  have hz := hc.size
  refine ⟨⟨hd.new hk, h2, fun hx => ?_, fun k hk hx => ?_⟩, hc.trans hk (fun _ _ e => e), fun k hk => ?_⟩
  · have := hd.lt _ hx; omega
  · have := hd.lt _ hx; have := h4 k hk; omega
  · rcases hk with hk | hk | hk
    · exact hl k hk
    · omega
    · have := h4 k hk; omega
theorem open_saved {w0 w : World} {g : Gh} {st : St} {l : OL} (hd : DiskAt w g st) (hc : Chg (fun _ => False) w0 w) (hlow : ∀ k ∈ g.fp, w0.heap.size ≤ k) (h : SavedO st l) (hl : OOk l) (hdn : st.down = false) :
    Calls Tryz.prog 9 #[.pointer (some ⟨g.d, 0, none⟩)] w fun e w' => Below w.heap.size w w' ∧ ∃ ob v, e = .returned (.tuple #[.pointer (some ⟨ob, 0, none⟩), .int .i64 0]) ∧ w.heap.size ≤ ob ∧ (∀ q, v.ownBlock = some q → w.heap.size ≤ q) ∧ NI w0 w' g st ob v l := by
  obtain ⟨e1, e2, e3⟩ := h.open_ hl hdn
  have := open_any hd e3
  unfold OpenTo at this
  rw [e1, e2] at this
  refine this.mono ?_
  rintro e w' ⟨hb, _, h2⟩
  obtain ⟨ob, v, he, h3, h4, h6⟩ := h2 rfl
  exact ⟨hb, ob, v, he, h3, h6, NI.open_ hd hc hlow hb h3 h4 h6⟩
theorem oset_ni {w0 w : World} {g : Gh} {st : St} {ob : Nat} {v : Value} {l : OL} (x : OfM) (h : NI w0 w g st ob v l) (hl : OOk l) (h1 : x.g.size ≤ 1000) (h2 : x.t.size ≤ 1000) :
    Calls Tryz.prog 12 #[.pointer (some ⟨ob, 0, none⟩), .agg (oenc x).toArray] w fun e w' => e = .returned (.int .i64 (osE l x)) ∧ ∃ v', NI w0 w' g st ob v' (osL l x) ∧ OTo g g ob v v' w w' := by
  refine (set_any x h.oi.head hl.ris hl.len (by unfold maxLen; omega) (by unfold maxLen; omega)).mono ?_
  rintro e w' ⟨he, v', hs⟩
  obtain ⟨a, b⟩ := h.oi.set hs
  exact ⟨he, v', h.to a b, b⟩
set_option maxHeartbeats 2000000 in
set_option maxRecDepth 100000 in
theorem oflush_any {n : Nat} {w : World} {g : Gh} {st : St} {ob : Nat} {v : Value} {l : OL} (h : OI w g st ob v l) (hl : OOk l) (hg : Good n st) (hn : n ≤ 900000) :
    Calls Tryz.prog 14 #[.pointer (some ⟨ob, 0, none⟩)] w fun e w' => e = .returned (.int .i64 (saveE st (freshB grpF) grpF (sealO l))) ∧ ∃ g', OI w' g' (saveS st (freshB grpF) grpF (sealO l)) ob v l ∧ OTo g g' ob v v w w' := by
  have hoc : ∀ W, Below w.heap.size w W → Calls Tryz.prog 35 #[v] W fun e w' => e = .returned (.string ⟨(bytesO l).toArray⟩) ∧ Below W.heap.size W w' := fun W hW => ooctets_any v l W (h.head.new (Chg.of_below hW)).row (by have := hl.len; omega) (fun t ht => (ok_sz (hl.ok t ht)).2.2)
  have hsz : (⟨(bytesO l).toArray⟩ : ByteArray).size ≤ 1000000 := by
    have := (sealO_len hl).1
    unfold sealO at this
    rw [vba_size, Cr.sealB_length] at this
    omega
  have hsv : ∀ W, Below w.heap.size w W → Calls Tryz.prog 34 #[.pointer (some ⟨g.d, 0, none⟩), .string grpF, .string ⟨(bytesO l).toArray⟩] W fun e w' => e = .returned (.int .i64 (saveE st (freshB grpF) grpF (sealO l))) ∧ (w'.cell? ⟨ob, 0, none⟩ = some (.pointer (some ⟨g.d, 0, none⟩)) ∧ w'.cell? ⟨ob, 1, none⟩ = some v) ∧ ∃ g', OI w' g' (saveS st (freshB grpF) grpF (sealO l)) ob v l ∧ OTo g g' ob v v w w' := fun W hW => by
    have hc : Chg (fun _ => False) w W := Chg.of_below hW
    have hi := h.new hc
    refine (save_any grpF ⟨(bytesO l).toArray⟩ hi.disk hg hn (by decide) hsz).mono ?_
    rintro e w' ⟨he, g', hd, ht⟩
    obtain ⟨a, b⟩ := hi.on hd ht
    have hz := hc.size
    refine ⟨he, ⟨by rw [← b.d]; exact a.head.at_.c0, a.head.at_.c1⟩, g', a, ⟨(hc.wide (S' := OS g ob v) (fun _ _ e => e.elim)).trans b.chg (fun _ _ e => e), fun k hk => ?_, fun k hk => ?_, b.d⟩⟩
    · rcases b.fp k hk with x | x
      · exact .inl x
      · exact .inr (by omega)
    · rcases b.own k hk with x | x
      · exact .inl x
      · exact .inr (by omega)
  have c0 := h.head.at_.c0
  have c1 := h.head.at_.c1
  obtain ⟨d, hd⟩ : ∃ d, d = g.d := ⟨_, rfl⟩
  rw [← hd] at c0 hsv
  obtain ⟨E, hE⟩ : ∃ E, E = saveE st (freshB grpF) grpF (sealO l) := ⟨_, rfl⟩
  rw [← hE] at hsv ⊢
  obtain ⟨bo, hbo⟩ : ∃ bo : ByteArray, bo = ⟨(bytesO l).toArray⟩ := ⟨_, rfl⟩
  rw [← hbo] at hoc hsv
  have HOC := Lib.hid hoc
  have HSV := Lib.hid hsv
  have HB : Hid (Below w.heap.size w w) := Lib.hid (Below.refl _ _)
  unfold grpF at HSV
  clear hoc hsv hsz hd hE hbo h hl hg
  go_enter Tryz.func14, Tryz.ntmps14
  go_upto_region 3 with fail
  go_region_held3 (fun w' => w'.cell? ⟨ob, 0, none⟩ = some (.pointer (some ⟨d, 0, none⟩)) ∧ w'.cell? ⟨ob, 1, none⟩ = some v)
    (first | exact ⟨c0, c1⟩ | go_keep)
    (first
      | (go_at_call 35
         refine (HOC.out _ ?_).mono ?_
         · repeat (first | exact HB.out | with_reducible refine below_drewN ?_ _ | with_reducible refine below_drew0 ?_)
         rintro e w2 ⟨rfl, hb2⟩
         have c0 := ukeep hb2 c0
         have c1 := ukeep hb2 c1)
      | (go_at_call 34
         refine (HSV.out _ ?_).mono ?_
         · repeat (first | exact HB.out | exact ubelow_on hb2 (by repeat (first | exact HB.out | with_reducible refine below_drewN ?_ _ | with_reducible refine below_drew0 ?_)) (Nat.le_refl _) | with_reducible refine below_drewN ?_ _ | with_reducible refine below_drew0 ?_)
         rintro e w3 ⟨rfl, ⟨c0, c1⟩, g', h3, h4⟩
         have HF := Lib.hid (And.intro h3 h4)))
  all_goals
    go_wp2_with fail
    go_ret
    exact ⟨rfl, g', HF.out⟩
set_option maxRecDepth 100000 in
set_option maxHeartbeats 2000000 in
theorem right_any (x : OfM) (w : World) (h1 : x.g.size ≤ maxLen) (h2 : x.t.size ≤ maxLen) :
    Calls Tryz.prog 10 #[.agg (oenc x).toArray] w fun e w' => e = .returned (.int .i64 (offE x)) ∧ Below w.heap.size w w' := by
  obtain ⟨x1, x2, x3, x4⟩ := x
  obtain ⟨gb, hgb⟩ : ∃ gb, gb = groupB x1 := ⟨_, rfl⟩
  obtain ⟨tb, htb⟩ : ∃ tb, tb = topicB x2 := ⟨_, rfl⟩
  have hE : offE ⟨x1, x2, x3, x4⟩ = if gb = true ∧ tb = true then (if x3 < 0 ∨ 3 ≤ x3 then 13 else if x4 < 0 ∨ 1099511627776 < x4 then 2 else 0) else 11 := by rw [hgb, htb]; rfl
  rw [hE]
  have hg := fun W => refGroup_any x1 W h1
  have ht := fun W => refTopic_any x2 W h2
  rw [← hgb] at hg
  rw [← htb] at ht
  obtain ⟨w1, hw1⟩ : ∃ w1, w1 = w.alloc (.cells #[.string x1, .string x2, .int .i64 x3, .int .i64 x4] 32) := ⟨_, rfl⟩
  obtain ⟨sb, hsb⟩ : ∃ sb, sb = w.heap.size := ⟨_, rfl⟩
  have hb1 : Below w.heap.size w w1 := by rw [hw1]; exact (Below.refl _ _).alloc (Nat.le_refl _) _
  have d0 : w1.cell? ⟨sb, 0, none⟩ = some (.string x1) := by rw [hw1, hsb]; simp [go_sem]
  have d1 : w1.cell? ⟨sb, 1, none⟩ = some (.string x2) := by rw [hw1, hsb]; simp [go_sem]
  have d2 : w1.cell? ⟨sb, 2, none⟩ = some (.int .i64 x3) := by rw [hw1, hsb]; simp [go_sem]
  have d3 : w1.cell? ⟨sb, 3, none⟩ = some (.int .i64 x4) := by rw [hw1, hsb]; simp [go_sem]
  have HG := Lib.hid hg
  have HT := Lib.hid ht
  have HW1 := Lib.hid hw1
  have HSB := Lib.hid hsb
  have HB1 := Lib.hid hb1
  unfold oenc
  try dsimp only
  clear hg ht hw1 hsb hb1 hgb htb hE
  cases gb with
  | false =>
    rw [if_neg (by simp)]
    go_enter Tryz.func10, Tryz.ntmps10
    go_upto_region 1 with fail
    rw [← HW1.out, ← HSB.out]
    go_wp2_with fail
    refine (HG.out _).mono ?_
    rintro e w2 ⟨rfl, rfl⟩
    go_wp2_with fail
    go_ret
    exact ⟨rfl, HB1.out⟩
  | true =>
    cases tb with
    | false =>
      rw [if_neg (by simp)]
      go_enter Tryz.func10, Tryz.ntmps10
      go_upto_region 1 with fail
      rw [← HW1.out, ← HSB.out]
      go_wp2_with fail
      refine (HG.out _).mono ?_
      rintro e w2 ⟨rfl, rfl⟩
      go_wp2_with fail
      refine (HT.out _).mono ?_
      rintro e w3 ⟨rfl, rfl⟩
      go_wp2_with fail
      go_ret
      exact ⟨rfl, HB1.out⟩
    | true =>
      rw [if_pos (by simp)]
      obtain ⟨q1, hq1⟩ : ∃ q1, q1 = decide (x3 < 0) := ⟨_, rfl⟩
      obtain ⟨q2, hq2⟩ : ∃ q2, q2 = decide (2 < x3) := ⟨_, rfl⟩
      obtain ⟨a1, ha1⟩ : ∃ a1, a1 = decide (x4 < 0) := ⟨_, rfl⟩
      obtain ⟨a2, ha2⟩ : ∃ a2, a2 = decide (1099511627776 < x4) := ⟨_, rfl⟩
      have hR : (if x3 < 0 ∨ 3 ≤ x3 then 13 else if x4 < 0 ∨ 1099511627776 < x4 then 2 else 0 : Int) = if q1 = true ∨ q2 = true then 13 else if a1 = true ∨ a2 = true then 2 else 0 := by
        have e : (x3 < 0 ∨ 3 ≤ x3) ↔ (x3 < 0 ∨ 2 < x3) := by omega
        rw [hq1, hq2, ha1, ha2]; simp only [decide_eq_true_iff, e]
      rw [hR]
      clear hR
      have q1' := hq1.symm
      have q2' := hq2.symm
      have a1' := ha1.symm
      have a2' := ha2.symm
      clear hq1 hq2 ha1 ha2
      cases q1 <;> cases q2 <;> cases a1 <;> cases a2
      all_goals
        go_enter Tryz.func10, Tryz.ntmps10
        go_upto_region 1 with fail
        rw [← HW1.out, ← HSB.out]
        go_wp2_with fail
        refine (HG.out _).mono ?_
        rintro e w2 ⟨rfl, rfl⟩
        go_wp2_with fail
        refine (HT.out _).mono ?_
        rintro e w3 ⟨rfl, rfl⟩
        go_wp2_with fail
        go_ret
        exact ⟨rfl, HB1.out⟩
def sameB (y x : OfM) : Bool := (y.g.toList == x.g.toList) && ((y.t.toList == x.t.toList) && (y.q == x.q))
theorem sameB_iff {y x : OfM} : sameB y x = true ↔ sameK y x := by
  unfold sameB sameK
  rw [Bool.and_eq_true_iff, Bool.and_eq_true_iff, vtoList_iff, vtoList_iff, beq_iff_eq]
def fndI (x : OfM) : OL → Nat → Int
  | [], _ => -1
  | y :: l, i => if sameB y x = true then (i : Int) else fndI x l (i + 1)
def findO (l : OL) (x : OfM) : Int := fndI x l 0
theorem fndI_drop (x : OfM) (l : OL) {k : Nat} {y : OfM} (hy : l[k]? = some y) : fndI x (l.drop k) k = if sameB y x = true then (k : Int) else fndI x (l.drop (k + 1)) (k + 1) := by
  have hk := (List.getElem?_eq_some_iff.1 hy).1
  rw [List.drop_eq_getElem_cons hk]
  have : l[k] = y := (List.getElem?_eq_some_iff.1 hy).2
  rw [this]
  rfl
theorem fndI_spec (x : OfM) : ∀ (l : OL) (i : Nat), (fndI x l i = -1 ∧ ∀ y ∈ l, ¬ sameK y x) ∨ ∃ j y, fndI x l i = ((i + j : Nat) : Int) ∧ l[j]? = some y ∧ sameK y x
  | [], i => .inl ⟨rfl, fun t h => by cases h⟩
  | t :: l, i => by
    unfold fndI
    by_cases h : sameB t x = true
    · rw [if_pos h]
      exact .inr ⟨0, t, rfl, rfl, sameB_iff.1 h⟩
    · rw [if_neg h]
      rcases fndI_spec x l (i + 1) with ⟨h1, h2⟩ | ⟨j, y, h1, h2, h3⟩
      · refine .inl ⟨h1, fun y hy => ?_⟩
        rcases List.mem_cons.1 hy with rfl | hy
        · exact fun e => h (sameB_iff.2 e)
        · exact h2 y hy
      · exact .inr ⟨j + 1, y, by rw [h1]; congr 1; omega, by simpa using h2, h3⟩
theorem findO_spec (l : OL) (x : OfM) : (findO l x = -1 ∧ ∀ y ∈ l, ¬ sameK y x) ∨ ∃ (j : Nat) (y : OfM), findO l x = (j : Int) ∧ l[j]? = some y ∧ sameK y x := by
  rcases fndI_spec x l 0 with h | ⟨j, y, h1, h2⟩
  · exact .inl h
  · exact .inr ⟨j, y, by rw [← Nat.zero_add j]; exact h1, h2⟩
set_option maxRecDepth 100000 in
set_option maxHeartbeats 4000000 in
theorem find_any {w : World} {v : Value} {l : OL} (x : OfM) (h : OArg w v l) (hl : l.length ≤ 1000) :
    Calls Tryz.prog 11 #[v, .agg (oenc x).toArray] w fun e w' => e = .returned (.int .i64 (findO l x)) ∧ Below w.heap.size w w' := by
  obtain ⟨x1, x2, x3, x4⟩ := x
  obtain ⟨w1, hw1⟩ : ∃ w1, w1 = w.alloc (.cells #[.string x1, .string x2, .int .i64 x3, .int .i64 x4] 32) := ⟨_, rfl⟩
  obtain ⟨sb, hsb⟩ : ∃ sb, sb = w.heap.size := ⟨_, rfl⟩
  have hb1 : Below w.heap.size w w1 := by rw [hw1]; exact (Below.refl _ _).alloc (Nat.le_refl _) _
  have d0 : w1.cell? ⟨sb, 0, none⟩ = some (.string x1) := by rw [hw1, hsb]; simp [go_sem]
  have d1 : w1.cell? ⟨sb, 1, none⟩ = some (.string x2) := by rw [hw1, hsb]; simp [go_sem]
  have d2 : w1.cell? ⟨sb, 2, none⟩ = some (.int .i64 x3) := by rw [hw1, hsb]; simp [go_sem]
  have hD : ∀ W, Below w1.heap.size w1 W → W.cell? ⟨sb, 0, none⟩ = some (.string x1) ∧ W.cell? ⟨sb, 1, none⟩ = some (.string x2) ∧ W.cell? ⟨sb, 2, none⟩ = some (.int .i64 x3) := fun W hW => ⟨ukeep hW d0, ukeep hW d1, ukeep hW d2⟩
  have hA : ∀ W, Below w1.heap.size w1 W → OArg W v l := fun W hW => (h.keep hb1).keep hW
  have hF : ∀ W, Below w1.heap.size w1 W → Below w.heap.size w W := fun W hW => hb1.trans (hW.mono hb1.size)
  obtain ⟨a, cap, rfl, hcap⟩ := h.len
  obtain ⟨n, hn⟩ : ∃ n, n = l.length := ⟨_, rfl⟩
  obtain ⟨r, hr⟩ : ∃ r, r = findO l ⟨x1, x2, x3, x4⟩ := ⟨_, rfl⟩
  rw [← hn] at hA hl hcap ⊢
  rw [← hr]
  unfold oenc
  try dsimp only
  have HW1 := Lib.hid hw1
  have HSB := Lib.hid hsb
  have HD := Lib.hid hD
  have HA := Lib.hid hA
  have HF := Lib.hid hF
  have HN := Lib.hid hn
  have HR := Lib.hid hr
  clear hw1 hsb hb1 hD hA hF hn hr d0 d1 d2 h
  go_enter Tryz.func11, Tryz.ntmps11
  go_upto_region 1 with fail
  rw [← HW1.out, ← HSB.out]
  go_wp2_with fail
  go_loopw [9] (fun i wr => ∃ k : Nat, k ≤ n ∧ i = .int .i64 (k : Int) ∧ Hid (r = fndI ⟨x1, x2, x3, x4⟩ (l.drop k) k) ∧ Hid (Below w1.heap.size w1 wr)) (fun i _ => n - (intOf i).toNat)
  case atStart => exact ⟨0, Nat.zero_le _, rfl, Lib.hid (by rw [HR.out, List.drop_zero]; rfl), Lib.hid (Below.refl _ _)⟩
  case round =>
    obtain ⟨k, hk, rfl, HK, HB⟩ := hrel
    by_cases hlt : k < n
    · obtain ⟨y, hy⟩ : ∃ y, l[k]? = some y := ⟨_, List.getElem?_eq_getElem (by rw [← HN.out]; exact hlt)⟩
      obtain ⟨b, o, rfl, hc⟩ := (HA.out wr HB.out).at_ hy
      have hp := fndI_drop ⟨x1, x2, x3, x4⟩ l hy
      obtain ⟨c0, c1, c2, c3⟩ := hc
      obtain ⟨e0, e1, e2⟩ := HD.out wr HB.out
      obtain ⟨y1, y2, y3, y4⟩ := y
      try dsimp only at c0 c1 c2 c3
      have hsB : sameB ⟨y1, y2, y3, y4⟩ ⟨x1, x2, x3, x4⟩ = ((y1.toList == x1.toList) && ((y2.toList == x2.toList) && (y3 == x3))) := rfl
      obtain ⟨w2, hw2⟩ : ∃ w2, w2 = wr.alloc (.cells #[.string y1, .string y2, .int .i64 y3, .int .i64 y4] 32) := ⟨_, rfl⟩
      obtain ⟨yb, hyb⟩ : ∃ yb, yb = wr.heap.size := ⟨_, rfl⟩
      have hb2 : Below wr.heap.size wr w2 := by rw [hw2]; exact (Below.refl _ _).alloc (Nat.le_refl _) _
      have f0 : w2.cell? ⟨yb, 0, none⟩ = some (.string y1) := by rw [hw2, hyb]; simp [go_sem]
      have f1 : w2.cell? ⟨yb, 1, none⟩ = some (.string y2) := by rw [hw2, hyb]; simp [go_sem]
      have f2 : w2.cell? ⟨yb, 2, none⟩ = some (.int .i64 y3) := by rw [hw2, hyb]; simp [go_sem]
      have g0 := ukeep hb2 e0
      have g1 := ukeep hb2 e1
      have g2 := ukeep hb2 e2
      have HB2 := Lib.hid (ubelow_on hb2 HB.out (Nat.le_refl _))
      have HW2 := Lib.hid hw2
      have HYB := Lib.hid hyb
      obtain ⟨b1, hb1'⟩ : ∃ b1, (y1.toList == x1.toList) = b1 := ⟨_, rfl⟩
      obtain ⟨b2, hb2'⟩ : ∃ b2, (y2.toList == x2.toList) = b2 := ⟨_, rfl⟩
      obtain ⟨b3, hb3'⟩ : ∃ b3, (y3 == x3) = b3 := ⟨_, rfl⟩
      rw [hb1', hb2', hb3'] at hsB
      rw [hsB] at hp
      have HP := Lib.hid hp
      clear hw2 hyb hb2 hp hsB hy e0 e1 e2
      cases b1 <;> cases b2 <;> cases b3
      all_goals
        go_upto_region 4 with fail
        rw [← HW2.out, ← HYB.out]
        go_wp2_with fail
        first
          | exact ⟨⟨k + 1, by omega, by go_num, Lib.hid (by rw [HK.out, HP.out]; simp), HB2⟩, by simp [intOf]; omega⟩
          | (go_ret
             have e9 : r = (k : Int) := by rw [HK.out, HP.out]; simp
             rw [e9]
             exact ⟨rfl, HF.out _ HB2.out⟩)
    · have hkn : k = n := by omega
      have HKN := Lib.hid hkn
      clear hkn
      go_wp2_with fail
      go_ret
      have e0 : r = -1 := by
        rw [HK.out, HKN.out, HN.out, List.drop_length]
        rfl
      rw [e0]
      exact ⟨rfl, HF.out _ HB.out⟩
def Agree (a b : OL) : Prop := a.length = b.length ∧ ∀ x ∈ a, ∃ (j : Nat) (y : OfM), findO b x = (j : Int) ∧ b[j]? = some y ∧ y.a = x.a
set_option maxRecDepth 100000 in
set_option maxHeartbeats 4000000 in
theorem same_any_o {w : World} {u v : Value} {la lb : OL} (hu : OArg w u la) (hv : OArg w v lb) (hl : la.length ≤ 1000) (hs : Agree la lb) :
    Calls Tryz.prog 17 #[u, v] w fun e w' => e = .returned (.bool true) ∧ Below w.heap.size w w' := by
  obtain ⟨hs1, hs2⟩ := hs
  have hA : ∀ W, Below w.heap.size w W → OArg W u la := fun W hW => hu.keep hW
  have hV : ∀ W, Below w.heap.size w W → OArg W v lb := fun W hW => hv.keep hW
  have hfnd : ∀ W x, Below w.heap.size w W → Calls Tryz.prog 11 #[v, .agg (oenc x).toArray] W fun e w' => e = .returned (.int .i64 (findO lb x)) ∧ Below W.heap.size W w' := fun W x hW => find_any x (hv.keep hW) (by omega)
  obtain ⟨a, cap, rfl, hcap⟩ := hu.len
  obtain ⟨b, cap2, rfl, hcap2⟩ := hv.len
  obtain ⟨n, hn⟩ : ∃ n, n = la.length := ⟨_, rfl⟩
  rw [← hs1] at hV hfnd hcap2 ⊢
  rw [← hn] at hA hV hfnd hl hcap hcap2 ⊢
  have HA := Lib.hid hA
  have HV := Lib.hid hV
  have HFN := Lib.hid hfnd
  have HN := Lib.hid hn
  have HS := Lib.hid hs2
  have HL := Lib.hid hs1
  clear hA hV hfnd hn hs2 hs1 hu hv
  go_enter Tryz.func17, Tryz.ntmps17
  go_wp2_with fail
  go_loopw [15] (fun i wr => ∃ k : Nat, k ≤ n ∧ i = .int .i64 (k : Int) ∧ Hid (Below w.heap.size w wr)) (fun i _ => n - (intOf i).toNat)
  case atStart => exact ⟨0, Nat.zero_le _, rfl, Lib.hid (Below.refl _ _)⟩
  case round =>
    obtain ⟨k, hk, rfl, HB⟩ := hrel
    by_cases hlt : k < n
    · obtain ⟨x, hx⟩ : ∃ x, la[k]? = some x := ⟨_, List.getElem?_eq_getElem (by rw [← HN.out]; exact hlt)⟩
      obtain ⟨bb, o, rfl, hc⟩ := (HA.out wr HB.out).at_ hx
      obtain ⟨j, y, hj1, hj2, hj3⟩ := HS.out x (List.mem_of_getElem? hx)
      have hjn : j < n := by have := (List.getElem?_eq_some_iff.1 hj2).1; have := HN.out; have := HL.out; omega
      have hfx := fun W hW => HFN.out W x hW
      rw [hj1] at hfx
      have hyc : ∀ W, Below w.heap.size w W → ∃ b2 o2, b = some ⟨b2, o2, none⟩ ∧ W.cell? ⟨b2, o2 + j * 4 + 3, none⟩ = some (.int .i64 x.a) := fun W hW => by
        obtain ⟨b2, o2, e, hc2⟩ := (HV.out W hW).at_ hj2
        exact ⟨b2, o2, e, by rw [← hj3]; exact hc2.c3⟩
      obtain ⟨c0, c1, c2, c3⟩ := hc
      obtain ⟨x1, x2, x3, x4⟩ := x
      unfold oenc at hfx
      try dsimp only at c0 c1 c2 c3 hfx hyc
      obtain ⟨w2, hw2⟩ : ∃ w2, w2 = wr.alloc (.cells #[.string x1, .string x2, .int .i64 x3, .int .i64 x4] 32) := ⟨_, rfl⟩
      obtain ⟨xb, hxb⟩ : ∃ xb, xb = wr.heap.size := ⟨_, rfl⟩
      have hb2 : Below w.heap.size w w2 := by rw [hw2]; exact HB.out.alloc HB.out.size _
      have f0 : w2.cell? ⟨xb, 0, none⟩ = some (.string x1) := by rw [hw2, hxb]; simp [go_sem]
      have f1 : w2.cell? ⟨xb, 1, none⟩ = some (.string x2) := by rw [hw2, hxb]; simp [go_sem]
      have f2 : w2.cell? ⟨xb, 2, none⟩ = some (.int .i64 x3) := by rw [hw2, hxb]; simp [go_sem]
      have f3 : w2.cell? ⟨xb, 3, none⟩ = some (.int .i64 x4) := by rw [hw2, hxb]; simp [go_sem]
      have HF2 := Lib.hid (hfx w2 hb2)
      have HYC := Lib.hid hyc
      have HB2 := Lib.hid hb2
      have HW2 := Lib.hid hw2
      have HXB := Lib.hid hxb
      have hj0 : (0 : Int) ≤ (j : Int) := by omega
      have hjn2 : (j : Int) < (n : Int) := by omega
      have hneg : decide ((j : Int) < 0) = false := decide_eq_false (by omega)
      clear hfx hyc hb2 hw2 hxb hx hj1 hj2 hj3
      go_upto_region 6 with fail
      rw [← HW2.out, ← HXB.out]
      go_wp2_with fail
      refine HF2.out.mono ?_
      rintro e w3 ⟨rfl, hb3⟩
      have f3 := ukeep hb3 f3
      have HB3 := Lib.hid (ubelow_on hb3 HB2.out (Nat.le_refl _))
      obtain ⟨b2, o2, rfl, hy3⟩ := HYC.out w3 HB3.out
      clear hb3 f0 f1 f2
      go_wp2_with fail
      go_quiet (fail)
      go_wp2_with fail
      exact ⟨⟨k + 1, by omega, by go_num, Lib.hid (below_drewN HB3.out _)⟩, by simp [intOf]; omega⟩
    · go_wp2_with fail
      go_ret
      exact ⟨rfl, HB.out⟩
set_option maxRecDepth 100000 in
set_option maxHeartbeats 4000000 in
theorem rising_any {w : World} {v : Value} {l : OL} (h : OArg w v l) (hr : Rising l) (hl : l.length ≤ 1000) :
    Calls Tryz.prog 19 #[v] w fun e w' => e = .returned (.bool true) ∧ Below w.heap.size w w' := by
  have hA : ∀ W, Below w.heap.size w W → OArg W v l := fun W hW => h.keep hW
  obtain ⟨a, cap, rfl, hcap⟩ := h.len
  obtain ⟨n, hn⟩ : ∃ n, n = l.length := ⟨_, rfl⟩
  rw [← hn] at hA hl hcap ⊢
  have HA := Lib.hid hA
  have HN := Lib.hid hn
  have HR := Lib.hid hr
  clear hA hn hr h
  go_enter Tryz.func19, Tryz.ntmps19
  go_wp2_with fail
  go_loopw [3] (fun i wr => ∃ k : Nat, 1 ≤ k ∧ i = .int .i64 (k : Int) ∧ Hid (Below w.heap.size w wr)) (fun i _ => n + 1 - (intOf i).toNat)
  case atStart => exact ⟨1, Nat.le_refl _, rfl, Lib.hid (Below.refl _ _)⟩
  case round =>
    obtain ⟨k, hk, rfl, HB⟩ := hrel
    by_cases hlt : k < n
    · obtain ⟨m, hkm⟩ : ∃ m, k = m + 1 := ⟨k - 1, by omega⟩
      obtain ⟨x, hx⟩ : ∃ x, l[m]? = some x := ⟨_, List.getElem?_eq_getElem (by rw [← HN.out]; omega)⟩
      obtain ⟨y, hy⟩ : ∃ y, l[k]? = some y := ⟨_, List.getElem?_eq_getElem (by rw [← HN.out]; omega)⟩
      have hord := rising_at HR.out (show m < k by omega) hx hy
      obtain ⟨b, o, rfl, hc⟩ := (HA.out wr HB.out).at_ hx
      obtain ⟨b', o', e, hc'⟩ := (HA.out wr HB.out).at_ hy
      injection e with e
      injection e with e1 e2
      subst e1 e2
      obtain ⟨c0, c1, c2, c3⟩ := hc
      obtain ⟨d0, d1, d2, d3⟩ := hc'
      obtain ⟨x1, x2, x3, x4⟩ := x
      obtain ⟨y1, y2, y3, y4⟩ := y
      try dsimp only at c0 c1 c2 c3 d0 d1 d2 d3
      unfold oLess at hord
      try dsimp only at hord
      have hm : (k : Int) - 1 = (m : Int) := by omega
      have hm1 : m < n := by omega
      have hm2 : (m : Int) < (n : Int) := by omega
      have hm3 : (0 : Int) ≤ (m : Int) := by omega
      have hm4 : (k : Int) < (n : Int) := by omega
      have hm5 : (0 : Int) ≤ (k : Int) := by omega
      have hm6 : IntKind.i64.wrap (m : Int) = (m : Int) := by rw [IntKind.wrap_i64]; omega
      obtain ⟨b1, hb1⟩ : ∃ b1, (x1.toList == y1.toList) = b1 := ⟨_, rfl⟩
      obtain ⟨b2, hb2⟩ : ∃ b2, (x2.toList == y2.toList) = b2 := ⟨_, rfl⟩
      have e1 : Op.bytesLess y1.toList x1.toList = false := by
        rw [qbl_eq, decide_eq_false_iff_not]
        intro hlt2
        rcases hord with h | ⟨h, _⟩
        · exact List.lt_irrefl _ (List.lt_trans h hlt2)
        · rw [h] at hlt2; exact List.lt_irrefl _ hlt2
      have k1 : b1 = false → Op.bytesLess x1.toList y1.toList = true := fun hb => by
        rw [hb] at hb1
        rw [qbl_eq, decide_eq_true_iff]
        rcases hord with h | ⟨h, _⟩
        · exact h
        · rw [vtoList_iff.2 h] at hb1; cases hb1
      have k2 : b1 = true → b2 = false → Op.bytesLess x2.toList y2.toList = true := fun hb hbb => by
        rw [hb] at hb1
        rw [hbb] at hb2
        have he := vtoList_iff.1 hb1
        rw [qbl_eq, decide_eq_true_iff]
        rcases hord with h | ⟨_, h | ⟨h, _⟩⟩
        · rw [he] at h; exact absurd h (List.lt_irrefl _)
        · exact h
        · rw [vtoList_iff.2 h] at hb2; cases hb2
      have e2 : b1 = true → Op.bytesLess y2.toList x2.toList = false := fun hb => by
        rw [hb] at hb1
        have he := vtoList_iff.1 hb1
        rw [qbl_eq, decide_eq_false_iff_not]
        intro hlt2
        rcases hord with h | ⟨_, h | ⟨h, _⟩⟩
        · rw [he] at h; exact List.lt_irrefl _ h
        · exact List.lt_irrefl _ (List.lt_trans h hlt2)
        · rw [h] at hlt2; exact List.lt_irrefl _ hlt2
      have e3 : b1 = true → b2 = true → decide (y3 ≤ x3) = false := fun hb hbb => by
        rw [hb] at hb1
        rw [hbb] at hb2
        have he := vtoList_iff.1 hb1
        have he2 := vtoList_iff.1 hb2
        rw [decide_eq_false_iff_not]
        intro hlt2
        rcases hord with h | ⟨_, h | ⟨_, h⟩⟩
        · rw [he] at h; exact List.lt_irrefl _ h
        · rw [he2] at h; exact List.lt_irrefl _ h
        · omega
      clear hx hy hord hkm
      have HB0 : Hid (Below wr.heap.size wr wr) := Lib.hid (Below.refl _ _)
      go_upto_region 4 with fail
      go_cut [4, 5] from 12 to 20 (fun p q wx => ∃ bp bq, p = .pointer (some ⟨bp, 0, none⟩) ∧ q = .pointer (some ⟨bq, 0, none⟩) ∧ (wx.cell? ⟨bp, 0, none⟩ = some (.string x1) ∧ wx.cell? ⟨bp, 1, none⟩ = some (.string x2) ∧ wx.cell? ⟨bp, 2, none⟩ = some (.int .i64 x3)) ∧ (wx.cell? ⟨bq, 0, none⟩ = some (.string y1) ∧ wx.cell? ⟨bq, 1, none⟩ = some (.string y2) ∧ wx.cell? ⟨bq, 2, none⟩ = some (.int .i64 y3)) ∧ Below w.heap.size w wx)
      case first =>
        go_region_held3 (fun w' => w'.cell? ⟨b, o + m * 4, none⟩ = some (.string x1) ∧ w'.cell? ⟨b, o + m * 4 + 1, none⟩ = some (.string x2) ∧ w'.cell? ⟨b, o + m * 4 + 2, none⟩ = some (.int .i64 x3) ∧ w'.cell? ⟨b, o + m * 4 + 3, none⟩ = some (.int .i64 x4) ∧ w'.cell? ⟨b, o + k * 4, none⟩ = some (.string y1) ∧ w'.cell? ⟨b, o + k * 4 + 1, none⟩ = some (.string y2) ∧ w'.cell? ⟨b, o + k * 4 + 2, none⟩ = some (.int .i64 y3) ∧ w'.cell? ⟨b, o + k * 4 + 3, none⟩ = some (.int .i64 y4))
          (first | exact ⟨c0, c1, c2, c3, d0, d1, d2, d3⟩ | go_keep)
          (fail)
        all_goals
          go_wp2_with fail
          go_meet
          exact ⟨_, _, rfl, rfl, ⟨by simp, by simp, by simp⟩, ⟨by simp, by simp, by simp⟩, by repeat (first | exact HB.out | with_reducible refine below_drewN ?_ _ | with_reducible refine below_drew0 ?_ | with_reducible refine below_alloc ?_ _)⟩
      case rest =>
        obtain ⟨bp, bq, rfl, rfl, ⟨f0, f1, f2⟩, ⟨g0, g1, g2⟩, hbx⟩ := hcut
        have HBX := Lib.hid hbx
        clear hbx c0 c1 c2 c3 d0 d1 d2 d3
        cases b1 with
        | false =>
          have k1' := k1 rfl
          clear e2 e3 k1 k2
          go_wp2_with fail
          exact ⟨⟨k + 1, by omega, by go_num, HBX⟩, by simp [intOf]; omega⟩
        | true =>
          have e2' := e2 rfl
          cases b2 with
          | false =>
            have k2' := k2 rfl rfl
            clear e2 e3 k1 k2
            go_wp2_with fail
            exact ⟨⟨k + 1, by omega, by go_num, HBX⟩, by simp [intOf]; omega⟩
          | true =>
            have e3' := e3 rfl rfl
            clear e2 e3 k1 k2
            go_wp2_with fail
            exact ⟨⟨k + 1, by omega, by go_num, HBX⟩, by simp [intOf]; omega⟩
    · go_wp2_with fail
      go_ret
      exact ⟨rfl, HB.out⟩
theorem ni_fuse {w0 w : World} {g : Gh} {st : St} {ob : Nat} {v : Value} {l : OL} {n : Nat} (h : NI w0 w g st ob v l) (k : Int) (hk : k ≤ 9223372036854775807) (hg : Good n st) :
    Calls Tryz.prog 15 #[.pointer (some ⟨g.d, 0, none⟩), .int .i64 k] w fun e w' => e = .returned (.tuple #[]) ∧ ∃ st', NI w0 w' g st' ob v l ∧ Good n st' ∧ st'.fs = st.fs ∧ st'.cap = st.cap ∧ st'.size = st.size ∧ st'.down = st.down ∧ OTo g g ob v v w w' := by
  refine (fuse_any g st k w h.oi.disk).mono ?_
  rintro e w' ⟨he, hd, ht⟩
  obtain ⟨a, b⟩ := h.oi.on hd ht
  exact ⟨he, _, h.to a b, hg.fuseS k hk, rfl, rfl, rfl, rfl, b⟩
theorem crash_names {w : World} {g : Gh} {st : St} (h : DiskAt w g st) (l : List WaitM) : (crashS st (imgs (g.es.map skel) l)).fs.map (·.1) = st.fs.map (·.1) := by
  show ((imgs (g.es.map skel) l).map fun p => (p.1, loseF p.2.2)).map (·.1) = _
  rw [List.map_map]
  exact sk_names h _
theorem ni_crash {w0 w : World} {g : Gh} {st : St} {ob : Nat} {v : Value} {l s : OL} {n : Nat} (h : NI w0 w g st ob v l) (hg : Good n st) (hn : n ≤ 1000) (hs : SavedO st s) (vk : Value) (bs : List Bool) (lack : Int) (hvb : BoolsOf w vk bs) (hbs : bs.length ≤ 1000) :
    Calls Tryz.prog 16 #[.pointer (some ⟨g.d, 0, none⟩), .agg #[vk, .int .i64 lack]] w fun e w' => e = .returned (.tuple #[]) ∧ ∃ g' st', NI w0 w' g' st' ob v l ∧ Good n st' ∧ SavedO st' s ∧ st'.down = false ∧ st'.cap = st.cap ∧ st'.fs.map (·.1) = st.fs.map (·.1) ∧ g'.d = g.d ∧ OTo g g' ob v v w w' := by
  refine (crash_any g st vk bs lack w h.oi.disk hvb (hg.waits (by omega)) (by omega) (hg.allIn (by omega)) (fun l hp _ => by
    have h1 := (hg.crash bs lack h.oi.disk hp).size
    have h2 : (crashS st (imgs (g.es.map skel) (cutLast (keepL l bs) lack))).cap = st.cap := rfl
    have h3 := hg.cap
    rw [h2] at h1
    exact Nat.le_trans h1 (by omega))).mono ?_
  rintro e w' ⟨he, ls, g', hp, _, hd, ht⟩
  obtain ⟨a, b⟩ := h.oi.on hd ht
  have hnames := crash_names h.oi.disk (cutLast (keepL ls bs) lack)
  refine ⟨he, g', _, h.to a b, hg.crash bs lack h.oi.disk hp, ?_, rfl, rfl, hnames, ht.d, b⟩
  rcases hs with ⟨e1, e2⟩ | ⟨F, f1, f2, f3⟩
  · refine .inl ⟨e1, ?_⟩
    have hn2 := find_none_names e2
    unfold St.find
    rw [Option.map_eq_none_iff, List.find?_eq_none]
    intro p hp2
    have h1 : p.1 ∈ st.fs.map (·.1) := by rw [← hnames]; exact List.mem_map_of_mem hp2
    have : p.1 ≠ grpF := fun e => hn2 (e ▸ h1)
    simp [this]
  · exact .inr ⟨F, crash_find bs lack h.oi.disk hg hp f1 f3, f2, f3⟩
structure Calm1 (n : Nat) (st : St) (s : OL) : Prop where
  ease : Ease n st
  saved : SavedO st s
  ok : OOk s
  names : ∀ p ∈ st.fs, p.1 = grpF
  size : st.size ≤ 2245
  room : 5000 ≤ st.cap
theorem Calm1.new (c : Int) (h0 : 5000 ≤ c) (h1 : c ≤ 16777216) : Calm1 0 (newSt c) [] :=
  ⟨Ease.new c, .inl ⟨rfl, rfl⟩, OOk.nil, fun p hp => (by cases hp), Nat.zero_le _, by show 5000 ≤ (min (max c 0) 16777216).toNat; omega⟩
theorem fresh_none {st : St} (h : ∀ p ∈ st.fs, p.1 = grpF) : st.find (freshB grpF) = none := by
  unfold St.find
  rw [Option.map_eq_none_iff, List.find?_eq_none]
  intro p hp
  rw [h p hp]
  exact (by decide : ¬ decide (grpF = freshB grpF) = true)
theorem drop_all (fs : List (ByteArray × FileM)) (a : ByteArray) (h : ∀ p ∈ fs, p.1 = a) : dropF fs a = [] := by
  unfold dropF
  rw [List.filter_eq_nil_iff]
  intro p hp
  simp [h p hp]
theorem calm_flush {n : Nat} {st : St} {l : OL} (he : Ease n st) (hnm : ∀ p ∈ st.fs, p.1 = grpF) (hl : OOk l) (hr : st.size + (sealO l).size ≤ st.cap) :
    saveE st (freshB grpF) grpF (sealO l) = 0 ∧ saveS st (freshB grpF) grpF (sealO l) = savedS st grpF (sealO l) ∧ Ease (n + 2) (savedS st grpF (sealO l)) ∧ (∀ p ∈ (savedS st grpF (sealO l)).fs, p.1 = grpF) ∧ (savedS st grpF (sealO l)).size ≤ 2245 ∧ SavedO (savedS st grpF (sealO l)) l := by
  have h1 := sealO_len hl
  obtain ⟨e1, e2⟩ := he.save (fresh_none hnm) grpF_ne (b := sealO l) (by omega) hr
  have e3 := he.saved (fresh_none hnm) grpF_ne (b := sealO l) (by omega) hr
  have hfs : (savedS st grpF (sealO l)).fs = [(grpF, wholeF (sealO l))] := by
    show dropF st.fs grpF ++ [(grpF, wholeF (sealO l))] = _
    rw [drop_all _ _ hnm, List.nil_append]
  refine ⟨e1, e2, e3, fun p hp => ?_, ?_, .inr ?_⟩
  · rw [hfs] at hp; simp at hp; rw [hp]
  · rw [e3.good.sum, hfs]
    show (sealO l).data.toList.length + 0 ≤ 2245
    rw [text_len]
    omega
  · rw [← e2]
    exact saveS_new (by omega) grpF_ne e1
def awX : OfM := ⟨⟨#[103]⟩, ⟨#[97]⟩, 0, 5⟩
def awY : OfM := ⟨⟨#[103]⟩, ⟨#[97]⟩, 0, 7⟩
theorem awK : sameK awX awY := ⟨rfl, rfl, rfl⟩
theorem awX0 : offE awX = 0 := by decide +kernel
theorem awY0 : offE awY = 0 := by decide +kernel
theorem awS1 : osE [] awX = 0 ∧ osL [] awX = [awX] := by
  have h : OOk ([] ++ [awX]) := ⟨List.pairwise_singleton _ _, by decide, fun y hy => by rw [List.mem_singleton.1 hy]; exact awX0⟩
  exact os_last h
theorem awOk : OOk [awX] := ⟨List.pairwise_singleton _ _, by decide, fun y hy => by rw [List.mem_singleton.1 hy]; exact awX0⟩
theorem awHas : hasO [awX] awY = true := (hasO_iff awOk.ris).2 ⟨awX, by simp, awK⟩
open Classical in
theorem awS2 : osE [awX] awY = 0 ∧ osL [awX] awY = [awY] := by
  have hE : osE [awX] awY = 0 := by
    unfold osE
    rw [if_neg (by simp [awY0]), if_pos awHas]
  refine ⟨hE, ?_⟩
  unfold osL
  rw [if_pos hE, putO_eq]
  show (if oLess awX awY then _ else if sameK awX awY then [awY] else _) = _
  rw [if_neg (fun h => oLess_ne h awK), if_pos awK]
theorem awOk2 : OOk [awY] := ⟨List.pairwise_singleton _ _, by decide, fun y hy => by rw [List.mem_singleton.1 hy]; exact awY0⟩
theorem awG1 : getO [awX] ⟨#[103]⟩ ⟨#[97]⟩ 0 = 5 := getO_mem awOk.ris (y := awX) (by simp) ⟨rfl, rfl, rfl⟩
theorem awG2 : getO [awY] ⟨#[103]⟩ ⟨#[97]⟩ 0 = 7 := getO_mem awOk2.ris (y := awY) (by simp) ⟨rfl, rfl, rfl⟩
theorem awSz : (sealO [awX]).size ≤ 100 := by
  unfold sealO
  rw [vba_size, Cr.sealB_length, vba_size]
  unfold bytesO
  rw [List.length_append, Oc.numB_length, List.flatMap_cons, List.length_append, offB_len]
  decide
set_option maxRecDepth 100000 in
set_option maxHeartbeats 4000000 in
theorem awake_o (w : World) : Calls Tryz.prog 7 #[] w fun e w' => e = .returned (.bool true) ∧ Below w.heap.size w w' := by
  obtain ⟨s1, s1'⟩ := awS1
  obtain ⟨s2, s2'⟩ := awS2
  obtain ⟨f1, f2, f3, _, _, f6⟩ := calm_flush (n := 0) (st := newSt 1000) (l := [awX]) (Ease.new 1000) (fun p hp => (by cases hp)) awOk (by have := awSz; show 0 + _ ≤ 1000; omega)
  obtain ⟨S, hS⟩ : ∃ S, S = savedS (newSt 1000) grpF (sealO [awX]) := ⟨_, rfl⟩
  rw [← hS] at f2 f3 f6
  clear hS
  have HO : Hid (∀ W, DiskAt W ⟨w.heap.size, none, []⟩ (newSt 1000) → Chg (fun _ => False) w W → Calls Tryz.prog 9 #[.pointer (some ⟨w.heap.size, 0, none⟩)] W fun e w' => Below W.heap.size W w' ∧ ∃ ob v, e = .returned (.tuple #[.pointer (some ⟨ob, 0, none⟩), .int .i64 0]) ∧ W.heap.size ≤ ob ∧ (∀ q, v.ownBlock = some q → W.heap.size ≤ q) ∧ NI w w' ⟨w.heap.size, none, []⟩ (newSt 1000) ob v []) := Lib.hid (fun W hd hc =>
    open_saved (g := ⟨w.heap.size, none, []⟩) hd hc (fun k hk => by simp [Gh.fp] at hk; omega) (.inl ⟨rfl, rfl⟩) OOk.nil rfl)
  have HS1 : Hid (∀ W ob v, NI w W ⟨w.heap.size, none, []⟩ (newSt 1000) ob v [] → Calls Tryz.prog 12 #[.pointer (some ⟨ob, 0, none⟩), .agg #[.string ⟨#[103]⟩, .string ⟨#[97]⟩, .int .i64 0, .int .i64 5]] W fun e w' => e = .returned (.int .i64 0) ∧ ∃ v', NI w w' ⟨w.heap.size, none, []⟩ (newSt 1000) ob v' [awX]) := Lib.hid (fun W ob v h => by
    refine (oset_ni awX h OOk.nil (by decide) (by decide)).mono ?_
    rintro e w' ⟨he, v', h2, _⟩
    rw [s1] at he
    rw [s1'] at h2
    exact ⟨he, v', h2⟩)
  have HFL : Hid (∀ W ob v, NI w W ⟨w.heap.size, none, []⟩ (newSt 1000) ob v [awX] → Calls Tryz.prog 14 #[.pointer (some ⟨ob, 0, none⟩)] W fun e w' => e = .returned (.int .i64 0) ∧ ∃ g', NI w w' g' S ob v [awX] ∧ g'.d = w.heap.size) := Lib.hid (fun W ob v h => by
    refine (oflush_any (n := 0) h.oi awOk (Ease.new 1000).good (by decide)).mono ?_
    rintro e w' ⟨he, g', h2, h3⟩
    rw [f1] at he
    rw [f2] at h2
    exact ⟨he, g', h.to h2 h3, h3.d⟩)
  have HS2 : Hid (∀ W g ob v, NI w W g S ob v [awX] → Calls Tryz.prog 12 #[.pointer (some ⟨ob, 0, none⟩), .agg #[.string ⟨#[103]⟩, .string ⟨#[97]⟩, .int .i64 0, .int .i64 7]] W fun e w' => e = .returned (.int .i64 0) ∧ ∃ v', NI w w' g S ob v' [awY]) := Lib.hid (fun W g ob v h => by
    refine (oset_ni awY h awOk (by decide) (by decide)).mono ?_
    rintro e w' ⟨he, v', h2, _⟩
    rw [s2] at he
    rw [s2'] at h2
    exact ⟨he, v', h2⟩)
  have HCR : Hid (∀ W g ob v, NI w W g S ob v [awY] → Calls Tryz.prog 16 #[.pointer (some ⟨g.d, 0, none⟩), .agg #[.slice none 0 0, .int .i64 0]] W fun e w' => e = .returned (.tuple #[]) ∧ ∃ g' st', NI w w' g' st' ob v [awY] ∧ SavedO st' [awX] ∧ st'.down = false ∧ g'.d = g.d) := Lib.hid (fun W g ob v h => by
    refine (ni_crash h f3.good (by decide) f6 (.slice none 0 0) [] 0 ⟨none, 0, rfl, .inl rfl⟩ (by decide)).mono ?_
    rintro e w' ⟨he, g', st', h1, _, h3, h4, _, _, h7, _⟩
    exact ⟨he, g', st', h1, h3, h4, h7⟩)
  have HO2 : Hid (∀ W g st ob v, NI w W g st ob v [awY] → SavedO st [awX] → st.down = false → Calls Tryz.prog 9 #[.pointer (some ⟨g.d, 0, none⟩)] W fun e w' => ∃ ob2 v2, e = .returned (.tuple #[.pointer (some ⟨ob2, 0, none⟩), .int .i64 0]) ∧ NI w w' g st ob2 v2 [awX] ∧ NI w w' g st ob v [awY]) := Lib.hid (fun W g st ob v h hs hd => by
    refine (open_saved h.oi.disk h.chg (fun k hk => h.low k (.inl hk)) hs awOk hd).mono ?_
    rintro e w' ⟨hb, ob2, v2, he, _, _, h2⟩
    exact ⟨ob2, v2, he, h2, h.new (Chg.of_below hb)⟩)
  have HG : Hid (∀ W ob p v l k, OHead W ob p v l → OOk l → getO l ⟨#[103]⟩ ⟨#[97]⟩ 0 = k → Calls Tryz.prog 20 #[.pointer (some ⟨ob, 0, none⟩), .string ⟨#[103]⟩, .string ⟨#[97]⟩, .int .i64 0] W fun e w' => e = .returned (.int .i64 k) ∧ Below W.heap.size W w') := Lib.hid (fun W ob p v l k h ho hk => by
    have := get_any ⟨#[103]⟩ ⟨#[97]⟩ 0 h ho.ris (by have := ho.len; omega)
    rw [hk] at this
    exact this)
  clear s1 s1' s2 s2' f1 f2 f3 f6
  go_enter Tryz.func7, Tryz.ntmps7
  go_wp2_with fail
  refine (new_any 1000 w).mono ?_
  rintro e w1 ⟨rfl, hd1, hb1⟩
  have HO1 := Lib.hid (HO.out w1 hd1 (Chg.of_below hb1))
  clear hd1 hb1
  go_wp2_with fail
  refine HO1.out.mono ?_
  rintro e w2 ⟨_, ob, v, rfl, _, _, h2⟩
  have HA2 := Lib.hid (HS1.out w2 ob v h2)
  clear h2
  go_wp2_with fail
  refine HA2.out.mono ?_
  rintro e w3 ⟨rfl, v3, h3⟩
  have HF3 := Lib.hid (HFL.out w3 ob v3 h3)
  clear h3
  go_wp2_with fail
  refine HF3.out.mono ?_
  rintro e w4 ⟨rfl, g4, h4, hd4⟩
  have HS4 := Lib.hid (HS2.out w4 g4 ob v3 h4)
  have HD4 := Lib.hid hd4
  clear h4 hd4
  go_wp2_with fail
  refine HS4.out.mono ?_
  rintro e w5 ⟨rfl, v5, h5⟩
  have hc5 := HCR.out w5 g4 ob v5 h5
  rw [HD4.out] at hc5
  have HC5 := Lib.hid hc5
  clear h5 hc5
  go_wp2_with fail
  refine HC5.out.mono ?_
  rintro e w6 ⟨rfl, g6, st6, h6, hs6, hn6, hd6⟩
  have ho6 := HO2.out w6 g6 st6 ob v5 h6 hs6 hn6
  rw [hd6] at ho6
  have HO6 := Lib.hid ho6
  clear h6 hs6 hn6 hd6 ho6
  go_wp2_with fail
  refine HO6.out.mono ?_
  rintro e w7 ⟨ob2, v2, rfl, hx, hy⟩
  have HX := Lib.hid (HG.out w7 ob2 _ v2 [awX] 5 hx.oi.head awOk awG1)
  have HY := Lib.hid hy
  clear hx hy
  go_wp2_with fail
  refine HX.out.mono ?_
  rintro e w8 ⟨rfl, hb8⟩
  have HY8 := Lib.hid (HY.out.new (Chg.of_below hb8))
  have HG8 := Lib.hid (HG.out w8 ob _ v5 [awY] 7 HY8.out.oi.head awOk2 awG2)
  clear hb8
  go_wp2_with fail
  refine HG8.out.mono ?_
  rintro e w9 ⟨rfl, hb9⟩
  have HY9 := Lib.hid (HY8.out.new (Chg.of_below hb9))
  clear hb9
  go_wp2_with fail
  go_ret
  exact ⟨rfl, HY9.out.below⟩
end Go.Proofs.YtemimmnamajooaaGreat
