/- A part. -/
import Derived.Test.YtdnhgodfmjapmaaGreatDoorDke45
import Derived.Test.YtdnhgodfmjapmaaGreatDoorDke49
set_option linter.unusedVariables false
set_option linter.unusedSimpArgs false
namespace Go.Proofs.YtdnhgodfmjapmaaGreatDoor
open Go.RowKit Go.Deep
theorem listJ_app {B base s : Nat} {a : List Int} {x : Int} {W W' W9 : World} {v v' : Value} (hj : ListJ B base a W) (hs : s ≤ B) (hc : Chg (fun _ => False) W W') (hv : W.heap[B]? = some (.cells #[v] 58 (0, 0))) (hown : W.ownsRow base 3 1 v a.length (a.map (Value.int .i64)))
    (hown9 : W9.ownsRow base 3 1 v' (a.length + 1) (a.map (Value.int .i64) ++ [.int .i64 x])) (hg : W'.grownBy W9 v.ownBlock) :
    ListJ B base (a ++ [x]) (W9.setCell ⟨B, 0, none⟩ v') ∧ Chg (fun q => s ≤ q ∧ q < W.heap.size) W' (W9.setCell ⟨B, 0, none⟩ v') := by
  obtain ⟨_, _, _, hBb, hbs⟩ := hj
  have hob : ∀ q, v.ownBlock = some q → base ≤ q ∧ q < W.heap.size := fun q hq => hown.lt q hq
  have hB : B < W.heap.size := (Array.getElem?_eq_some_iff.1 hv).1
  have hv' := hc.heap hv (fun x => x)
  have hcg : Chg (fun q => s ≤ q ∧ q < W.heap.size) W' W9 := Chg.of_grown hg (fun q hx _ => by have := hob q hx; omega)
  have hB9 : W9.heap[B]? = some (.cells #[v] 58 (0, 0)) := by
    have h1 : Chg (fun q => v.ownBlock = some q) W' W9 := Chg.of_grown hg (fun q hx _ => hx)
    exact h1.heap hv' (fun hx => by have := hob _ hx; omega)
  have hset : Chg (fun q => q = B) W9 (W9.setCell ⟨B, 0, none⟩ v') := Chg.setCell (S := fun q => q = B) (p := ⟨B, 0, none⟩) (Chg.refl _ _) (fun _ => rfl) _
  refine ⟨⟨v', heap_setCell_same W9 B 0 _ _ v' hB9, ?_, hBb, ?_⟩, hcg.trans hset (fun i hi hx => by subst hx; exact ⟨hs, hB⟩)⟩
  · have h2 : W9.ownsRow base 3 1 v' (a ++ [x]).length ((a ++ [x]).map (Value.int .i64)) := by
      rw [List.length_append, List.map_append]
      exact hown9
    exact hset.row h2 (fun q hq hx => by have := (h2.lt q hq).1; omega)
  · have := hc.size
    have := hg.size
    rw [World.size_setCell]
    omega
theorem kown_slice {w : World} {base : Nat} {t : TypeId} {v : Value} {n : Nat} {xs : List Value} (h : w.ownsRow base t 1 v (n + 1) xs) : ∃ q c, v = .slice (some ⟨q, 0, none⟩) (n + 1) c := by
  rcases h.2 with ⟨_, h0⟩ | ⟨g, cap, cur, e1, _⟩
  · omega
  · exact ⟨_, _, e1⟩
def FindJ (B base Mo L H h : Nat) (least most : Int) (a : List Int) (W : World) : Prop :=
  ListJ B base a W ∧ W.heap[Mo]? = some (.cells #[.int .i64 most] 3 (0, 0)) ∧ W.heap[L]? = some (.cells #[.int .i64 least] 3 (0, 0)) ∧ W.heap[H]? = some (.cells #[.int .i64 (h : Int)] 3 (0, 0)) ∧ Mo < base ∧ L < base ∧ H < base ∧ Mo ≠ B ∧ L ≠ B ∧ H ≠ B
theorem FindJ.new {B base Mo L H h : Nat} {least most : Int} {a : List Int} {W W' : World} (hf : FindJ B base Mo L H h least most a W) (hc : Chg (fun _ => False) W W') : FindJ B base Mo L H h least most a W' := by
  obtain ⟨h0, h1, h2, h3, h4⟩ := hf
  exact ⟨h0.new hc, hc.heap h1 (fun x => x), hc.heap h2 (fun x => x), hc.heap h3 (fun x => x), h4⟩
theorem findJ_app {B base Mo L H h s : Nat} {least most x : Int} {a : List Int} {W W' W9 : World} {v v' : Value} (hj : FindJ B base Mo L H h least most a W) (hs : s ≤ B) (hc : Chg (fun _ => False) W W') (hv : W.heap[B]? = some (.cells #[v] 58 (0, 0))) (hown : W.ownsRow base 3 1 v a.length (a.map (Value.int .i64)))
    (hown9 : W9.ownsRow base 3 1 v' (a.length + 1) (a.map (Value.int .i64) ++ [.int .i64 x])) (hg : W'.grownBy W9 v.ownBlock) :
    FindJ B base Mo L H h least most (a ++ [x]) (W9.setCell ⟨B, 0, none⟩ v') ∧ Chg (fun q => s ≤ q ∧ q < W.heap.size) W' (W9.setCell ⟨B, 0, none⟩ v') := by
  obtain ⟨h0, h1, h2, h3, m1, m2, m3, n1, n2, n3⟩ := hj
  obtain ⟨r1, r2⟩ := listJ_app h0 hs hc hv hown hown9 hg
  have hst : Chg (fun q => q = B ∨ base ≤ q) W' (W9.setCell ⟨B, 0, none⟩ v') := by
    have hcg : Chg (fun q => q = B ∨ base ≤ q) W' W9 := Chg.of_grown hg (fun q hx _ => .inr (hown.lt q hx).1)
    have hset : Chg (fun q => q = B) W9 (W9.setCell ⟨B, 0, none⟩ v') := Chg.setCell (S := fun q => q = B) (p := ⟨B, 0, none⟩) (Chg.refl _ _) (fun _ => rfl) _
    exact hcg.trans hset (fun _ _ x => .inl x)
  exact ⟨⟨r1, hst.heap (hc.heap h1 (fun x => x)) (by omega), hst.heap (hc.heap h2 (fun x => x)) (by omega), hst.heap (hc.heap h3 (fun x => x)) (by omega), m1, m2, m3, n1, n2, n3⟩, r2⟩
set_option maxHeartbeats 2000000 in
set_option maxRecDepth 100000 in
theorem find1_any (s B base Mo L H h : Nat) (least most : Int) (a : List Int) (W W' : World) (m : Nat) (k : KE) (d : Nat) (hj : FindJ B base Mo L H h least most a W) (hs : s ≤ B) (hc : Chg (fun _ => False) W W') (ha : a.length ≤ 1000000) :
    Calls Tryz.prog 49 #[.int .i64 (m : Nat), linkV k d, .pointer (some ⟨B, 0, none⟩), .pointer (some ⟨Mo, 0, none⟩), .pointer (some ⟨L, 0, none⟩), .pointer (some ⟨H, 0, none⟩)] W' fun e W'' =>
      e = .returned (.bool (findStp h least most m k a).1) ∧ FindJ B base Mo L H h least most (findStp h least most m k a).2 W'' ∧ Chg (fun q => s ≤ q ∧ q < W.heap.size) W' W'' := by
  have hj0 := hj
  obtain ⟨⟨v, hv, hown, hBb, hbs⟩, h1, h2, h3, m1, m2, m3, n1, n2, n3⟩ := hj
  obtain ⟨i0, hi, hz0, hz1, hz2⟩ := info_parts info_num
  obtain ⟨kh, ka, kb⟩ := k
  unfold linkV findStp
  dsimp only
  obtain ⟨W0, hW0⟩ : ∃ X, X = W'.alloc (.cells #[.int .i64 (kh : Int), .int .i64 (ka : Int), .int .i64 (kb : Int), .int .i64 (d : Int)] 111) := ⟨_, rfl⟩
  have hc0 : Chg (fun _ => False) W' W0 := hW0 ▸ Chg.alloc _ (Chg.refl _ _) _
  have hcw : Chg (fun _ => False) W W0 := hc.trans hc0 (fun _ _ x => x)
  have hv0 := hcw.heap hv (fun x => x)
  have hm0 := hcw.heap h1 (fun x => x)
  have hl0 := hcw.heap h2 (fun x => x)
  have hh0 := hcw.heap h3 (fun x => x)
  have kB : W0.cell? ⟨B, 0, none⟩ = some v := by simp [World.cell?, hv0]
  have zB : W0.frozen? ⟨B, 0, none⟩ = false := by simp [World.frozen?, hv0]
  have kM : W0.cell? ⟨Mo, 0, none⟩ = some (.int .i64 most) := by simp [World.cell?, hm0]
  have kL : W0.cell? ⟨L, 0, none⟩ = some (.int .i64 least) := by simp [World.cell?, hl0]
  have kH : W0.cell? ⟨H, 0, none⟩ = some (.int .i64 (h : Int)) := by simp [World.cell?, hh0]
  have j0 : W0.cell? ⟨W'.heap.size, 0, none⟩ = some (.int .i64 (kh : Int)) := by rw [hW0]; simp
  have j1 : W0.cell? ⟨W'.heap.size, 1, none⟩ = some (.int .i64 (ka : Int)) := by rw [hW0]; simp
  have hown0 := hcw.row hown (fun _ _ x => x)
  have hb0 : base ≤ W0.heap.size := Nat.le_trans hbs hcw.size
  have HEND : Hid (∀ (W9 : World) (v' : Value), W9.ownsRow base 3 1 v' (a.length + 1) (a.map (Value.int .i64) ++ [.int .i64 (ka : Int)]) → (W0.alloc (.cells #[.int .i64 (ka : Int)] 3)).grownBy W9 v.ownBlock → FindJ B base Mo L H h least most (a ++ [(ka : Int)]) (W9.setCell ⟨B, 0, none⟩ v') ∧ Chg (fun q => s ≤ q ∧ q < W.heap.size) W' (W9.setCell ⟨B, 0, none⟩ v') ∧ W9.cell? ⟨B, 0, none⟩ = some v ∧ W9.frozen? ⟨B, 0, none⟩ = false) := Lib.hid (fun W9 v' h9 hg => by
    have hc1 : Chg (fun _ => False) W (W0.alloc (.cells #[.int .i64 (ka : Int)] 3)) := Chg.alloc _ hcw _
    have hc2 : Chg (fun _ => False) W' (W0.alloc (.cells #[.int .i64 (ka : Int)] 3)) := Chg.alloc _ hc0 _
    obtain ⟨r1, r2⟩ := findJ_app hj0 hs hc1 hv hown h9 hg
    have hB9 : W9.heap[B]? = some (.cells #[v] 58 (0, 0)) := by
      have h3 : Chg (fun q => v.ownBlock = some q) (W0.alloc (.cells #[.int .i64 (ka : Int)] 3)) W9 := Chg.of_grown hg (fun q hx _ => hx)
      exact h3.heap (hc1.heap hv (fun x => x)) (fun hx => by have := (hown.lt _ hx).1; omega)
    exact ⟨r1, (hc2.wide (fun _ _ x => x.elim)).trans r2 (fun i hi x => x), by simp [World.cell?, hB9], by simp [World.frozen?, hB9]⟩)
  obtain ⟨vc, va, hvf⟩ : ∃ va vc, v = .slice va a.length vc := by
    rcases hown.2 with ⟨e1, h0⟩ | ⟨g, cap, cur, e1, _⟩
    · exact ⟨none, 0, by rw [e1, h0]⟩
    · exact ⟨_, _, e1⟩
  have HOWN := Lib.hid hown0
  have HW0 := Lib.hid hW0
  have HOLD : Hid (∀ W'', Below W0.heap.size W0 W'' → FindJ B base Mo L H h least most a W'' ∧ Chg (fun q => s ≤ q ∧ q < W.heap.size) W' W'') := Lib.hid (fun W'' hb => by
    have hcb : Chg (fun _ => False) W0 W'' := Chg.of_below hb
    exact ⟨hj0.new (hcw.trans hcb (fun _ _ x => x)), (hc0.trans hcb (fun _ _ x => x)).wide (fun _ _ x => x.elim)⟩)
  clear hj0 hv hown hBb hbs hW0 hc0 hcw hv0 hown0 hc h1 h2 h3 hm0 hl0 hh0 m1 m2 m3 n1 n2 n3
  subst hvf
  by_cases c1 : most ≤ (a.length : Int)
  · rw [if_pos (.inl c1)]
    have g1 : decide (most ≤ (a.length : Int)) = true := decide_eq_true c1
    clear j0 j1 kH
    go_enter Tryz.func49, Tryz.ntmps49
    go_upto_region 1 with fail
    rw [← HW0.out]
    go_wp2_with fail
    go_ret
    exact ⟨rfl, HOLD.out _ (Below.refl _ _)⟩
  · have g1 : ¬ most ≤ (a.length : Int) := c1
    by_cases c2 : (ka : Int) < least
    · rw [if_pos (.inr c2)]
      go_enter Tryz.func49, Tryz.ntmps49
      go_upto_region 1 with fail
      rw [← HW0.out]
      go_wp2_with fail
      go_ret
      exact ⟨rfl, HOLD.out _ (Below.refl _ _)⟩
    · rw [if_neg (by omega)]
      by_cases c3 : kh = h
      · rw [if_pos c3]
        subst c3
        go_enter Tryz.func49, Tryz.ntmps49
        go_upto_region 1 with fail
        rw [← HW0.out]
        go_wp2_with (at_builtin; refine wpList_append_own _ rfl (.tmp 23) (.tmp 26) 58 rfl base 3 i0 _ 1 8 Tryz.underlying58 hi hz0 hz1 hz2 rfl (by decide) _ a.length (a.map (Value.int .i64)) rfl (World.ownsRow.alloc HOWN.out _) ⟨W0.heap.size, 0, none⟩ 1 1 [.int .i64 (ka : Int)] rfl rfl ?d1 ?d2 ?d3 ?d4 ?d5 ?d6)
        case d2 => rfl
        case d3 => unfold maxLen; omega
        case d4 => omega
        case d5 => omega
        case d6 =>
          intro v' w9 hown9 hgrow9 _
          obtain ⟨q9, c9, rfl⟩ := kown_slice hown9
          obtain ⟨h1, h2, k9, z9⟩ := HEND.out w9 _ hown9 hgrow9
          have H1 := Lib.hid h1
          have H2 := Lib.hid h2
          clear h1 h2 hown9 hgrow9
          go_wp2_with fail
          go_ret
          exact ⟨rfl, H1.out, H2.out⟩
      · rw [if_neg c3]
        have c4 : ¬ ((kh : Int) = (h : Int)) := by omega
        go_enter Tryz.func49, Tryz.ntmps49
        go_upto_region 1 with fail
        rw [← HW0.out]
        go_wp2_with fail
        go_ret
        exact ⟨rfl, HOLD.out _ (Below.refl _ _)⟩
theorem own_base {w : World} {b b' : Nat} {t : TypeId} {s : Nat} {v : Value} {n : Nat} {xs : List Value} (h : w.ownsRow b t s v n xs) (hb : b' ≤ b) : w.ownsRow b' t s v n xs := by
  refine ⟨h.1, ?_⟩
  rcases h.2 with h0 | ⟨g1, cap, cur, e1, hbase, rest⟩
  · exact .inl h0
  · exact .inr ⟨g1, cap, cur, e1, Nat.le_trans hb hbase, rest⟩
def KNumsTo (w : World) (l : List Int) (v : Value) (w' : World) : Prop := w'.ownsRow w.heap.size 3 1 v l.length (l.map (Value.int .i64)) ∧ Chg (fun _ => False) w w'
theorem klen_any {w0 w : World} {xb : Nat} {g : Gh} {st : St} {n : Nat} {R : List KE} (h : KxI w0 w xb g st n R) : Calls Tryz.prog 18 #[.pointer (some ⟨xb, 0, none⟩)] w fun e w' => e = .returned (.int .i64 (R.length : Nat)) ∧ w = w' := by
  obtain ⟨_, c1, _⟩ := h.cells
  obtain ⟨C, hC⟩ : ∃ N : Int, N = ((R.length : Nat) : Int) := ⟨_, rfl⟩
  rw [← hC] at c1 ⊢
  clear hC h
  go_enter Tryz.func18, Tryz.ntmps18
  go_wp2_with fail
  go_ret
  exact ⟨rfl, rfl⟩
theorem find1_fn (args : Array Value) (W : World) : Sem.run Tryz.prog (callFunc 49 args) W = .ok (.enter 49 args) W := by kernel_rfl
set_option maxHeartbeats 2000000 in
set_option maxRecDepth 100000 in
theorem kfind_any {w0 w : World} {xb : Nat} {g : Gh} {st : St} {n : Nat} {R : List KE} (h : KxI w0 w xb g st n R) (hl : R.length ≤ 100000) (t k : ByteArray) (ht : t.size ≤ maxLen) (hk : k.size ≤ maxLen) (least most : Int) :
    Calls Tryz.prog 20 #[.pointer (some ⟨xb, 0, none⟩), .string t, .string k, .int .i64 least, .int .i64 most] w fun e w' => ∃ v, e = .returned (.tuple #[v, .int .i64 0]) ∧ KNumsTo w (findL (numK t k) least most R) v w' := by
  obtain ⟨W1, hW1⟩ : ∃ W, W = (w.alloc (.cells #[.int .i64 least] 3)).alloc (.cells #[.int .i64 most] 3) := ⟨_, rfl⟩
  obtain ⟨W2, hW2⟩ : ∃ W, W = W1.alloc (.cells #[.slice none 0 0] 58) := ⟨_, rfl⟩
  have hb1 : Below w.heap.size w W1 := hW1 ▸ ((Below.refl _ _).alloc (Nat.le_refl _) _).alloc (by rw [World.size_alloc]; omega) _
  have hs1 : W1.heap.size = w.heap.size + 2 := by rw [hW1, World.size_alloc, World.size_alloc]
  have hb2 : Below w.heap.size w W2 := hW2 ▸ hb1.alloc hb1.size _
  have hs2 : W2.heap.size = w.heap.size + 3 := by rw [hW2, World.size_alloc, hs1]
  have hL2 : W2.heap[w.heap.size]? = some (.cells #[.int .i64 least] 3 (0, 0)) := by
    have h3 : Below (w.heap.size + 1) (w.alloc (.cells #[.int .i64 least] 3)) W2 := by
      rw [hW2, hW1]
      exact ((Below.refl _ _).alloc (by rw [World.size_alloc]; exact Nat.le_refl _) _).alloc (by rw [World.size_alloc, World.size_alloc]; omega) _
    rw [h3.block _ (by omega)]
    exact heap_alloc_new w _
  have hM2 : W2.heap[w.heap.size + 1]? = some (.cells #[.int .i64 most] 3 (0, 0)) := by
    have := heap_alloc_new (w.alloc (.cells #[.int .i64 least] 3)) (.cells #[.int .i64 most] 3)
    rw [World.size_alloc, ← hW1] at this
    have h3 : Below W1.heap.size W1 W2 := hW2 ▸ (Below.refl _ _).alloc (Nat.le_refl _) _
    rw [h3.block _ (by omega)]
    exact this
  have hB2 : W2.heap[w.heap.size + 2]? = some (.cells #[.slice none 0 0] 58 (0, 0)) := by rw [hW2, ← hs1]; exact heap_alloc_new W1 _
  obtain ⟨h0, hh0⟩ : ∃ h0, h0 = numK t k := ⟨_, rfl⟩
  rw [← hh0]
  have hN := fun W => number_any t k W ht hk
  rw [← hh0] at hN
  have hA : ∀ (w4 : World), Below W2.heap.size W2 w4 → Calls Tryz.prog 48 #[.pointer (some ⟨xb, 0, none⟩), .int .i64 ((h0 % 8 : Nat) : Int), .func (.func 49) #[] #[.pointer (some ⟨w.heap.size + 2, 0, none⟩), .pointer (some ⟨w.heap.size + 1, 0, none⟩), .pointer (some ⟨w.heap.size, 0, none⟩), .pointer (some ⟨w4.heap.size, 0, none⟩)]] (w4.alloc (.cells #[.int .i64 (h0 : Int)] 3)) (AlongTo w (FindJ (w.heap.size + 2) (w4.heap.size + 1) (w.heap.size + 1) w.heap.size w4.heap.size h0 least most) (findL h0 least most R)) := fun w4 hb4 => by
    have hs4 := hb4.size
    obtain ⟨W5, hW5⟩ : ∃ W, W = w4.alloc (.cells #[.int .i64 (h0 : Int)] 3) := ⟨_, rfl⟩
    have hb5 : Below W2.heap.size W2 W5 := hW5 ▸ hb4.alloc hb4.size _
    have hs5 : W5.heap.size = w4.heap.size + 1 := by rw [hW5, World.size_alloc]
    have hbw : Below w.heap.size w W5 := hb2.trans (hb5.mono hb2.size)
    have hj : FindJ (w.heap.size + 2) (w4.heap.size + 1) (w.heap.size + 1) w.heap.size w4.heap.size h0 least most [] W5 := by
      refine ⟨⟨_, by rw [hb5.block _ (by omega)]; exact hB2, World.ownsRow_nil _ _ _ _, by omega, by omega⟩, by rw [hb5.block _ (by omega)]; exact hM2, by rw [hb5.block _ (by omega)]; exact hL2, by rw [hW5]; exact heap_alloc_new w4 _, by omega, by omega, by omega, by omega, by omega, by omega⟩
    rw [← hW5]
    exact along_any h (by omega) (h0 % 8) (Nat.mod_lt _ (by decide)) 49 find1_fn _ (fun t a => a.length + t.length ≤ R.length) _ (findStp h0 least most) []
      (by simp) (fun x t a hx => by simp only [List.length_cons] at hx; omega) (fun k r a hx => by
        simp only [List.length_cons] at hx
        unfold findStp
        split
        · show a.length + r.length ≤ _; omega
        · split
          · show (a ++ [_]).length + r.length ≤ _; rw [List.length_append]; simp only [List.length_cons, List.length_nil]; omega
          · show a.length + r.length ≤ _; omega)
      (Chg.of_below hbw) hj (fun a W W' hj hc => hj.new hc) (fun p k r a W W' hR hkb hK hj hc hC => by
        exact find1_any w.heap.size _ _ _ _ _ h0 least most a W W' (r.length + 1) k (lastR r (h0 % 8)) hj (by omega) hc (by simp only [List.length_cons] at hK; omega))
  have hmod : ((h0 : Int).tmod 8) = ((h0 % 8 : Nat) : Int) := by rw [Int.tmod_eq_emod_of_nonneg (by omega)]; omega
  have hlt0 : (h0 : Int) < 4294967296 := by have := numK_lt t k; omega
  obtain ⟨bi, hbi⟩ : ∃ bi : Int, bi = ((h0 % 8 : Nat) : Int) := ⟨_, rfl⟩
  rw [← hbi] at hA hmod
  have HA := Lib.hid hA
  have HN := Lib.hid hN
  have HW1 := Lib.hid hW1
  have HW2 := Lib.hid hW2
  have HB2 := Lib.hid hb2
  have HS := Lib.hid hs2
  have HS1 := Lib.hid hs1
  clear h hA hN hW1 hW2 hb1 hb2 hL2 hM2 hB2 hh0 hbi
  go_enter Tryz.func20, Tryz.ntmps20
  go_upto_region 1 with fail
  rw [← HW1.out]
  go_upto_region 4 with fail
  rw [← HW2.out]
  go_wp2_with fail
  refine (HN.out _).mono ?_
  rintro e w4 ⟨rfl, hb4⟩
  have HA4 := Lib.hid (HA.out w4 hb4)
  have HB4 := Lib.hid hb4
  have HB5 := Lib.hid (HB2.out.trans (hb4.mono HB2.out.size))
  have hn4 : (w4.alloc (.cells #[.int .i64 (h0 : Int)] 3)).cell? ⟨w4.heap.size, 0, none⟩ = some (.int .i64 (h0 : Int)) := by simp
  clear hb4
  go_wp2_with fail
  refine HA4.out.mono ?_
  rintro e w6 ⟨rfl, ⟨⟨v, hv, hown, hBb, hbs⟩, _⟩, hc⟩
  have kB : w6.cell? ⟨w.heap.size + 2, 0, none⟩ = some v := by simp [World.cell?, hv]
  have hw2 := HS.out
  have hw4 := HB4.out.size
  have HR : Hid (KNumsTo w (findL h0 least most R) v w6) := Lib.hid ⟨own_base hown (by omega), hc.wide (fun i hi hx => by omega)⟩
  obtain ⟨va, vc, hvf⟩ : ∃ va vc, v = .slice va (findL h0 least most R).length vc := by
    rcases hown.2 with ⟨e1, h0⟩ | ⟨g, cap, cur, e1, _⟩
    · exact ⟨none, 0, by rw [e1, h0]⟩
    · exact ⟨_, _, e1⟩
  clear hv hown hBb hbs hc
  obtain ⟨nn, hnn⟩ : ∃ nn, nn = (findL h0 least most R).length := ⟨_, rfl⟩
  rw [← hnn] at hvf
  subst hvf
  clear hnn
  go_wp2_with fail
  go_ret2
  exact ⟨_, rfl, HR.out⟩
def zeros24 : ByteArray := ⟨(List.replicate 24 (0 : UInt8)).toArray⟩
def kSt (c : Int) : Nat → St
  | 0 => newSt c
  | 1 => createS (newSt c) xL
  | _ => createS (createS (newSt c) xL) xS
def kNm : Nat → ByteArray
  | 0 => xL
  | _ => xS
def kEnd (c : Int) : St := writeS (kSt c 2) xS ((0 : Nat) : Int) zeros24
theorem kSt_facts (c : Int) (h0 : 24 ≤ c) (h1 : c ≤ 16777216) :
    (∀ j, j < 2 → createE (kSt c j) (kNm j) = 0 ∧ createS (kSt c j) (kNm j) = kSt c (j + 1) ∧ Calm 2 (kSt c j)) ∧ Calm 2 (kSt c 2) ∧
    writeE (kSt c 2) xS ((0 : Nat) : Int) zeros24 = 0 ∧ Calm 3 (kEnd c) ∧ (∃ f, (kEnd c).find xL = some f ∧ f.bytes = linksB []) ∧ (∃ f, (kEnd c).find xS = some f ∧ f.bytes = slotsB []) ∧ (kEnd c).size = 24 ∧ (kEnd c).cap = c.toNat ∧ (∃ f, (kSt c 2).find xS = some f ∧ f.bytes = [] ∧ f.writes = []) := by
  have k0 : Calm 0 (newSt c) := ⟨Good.new c, rfl, rfl⟩
  have f0 : (newSt c).find xL = none := rfl
  have e1 := k0.createS f0
  have k1 := k0.create f0
  have f1 : (createS (newSt c) xL).find xS = none := by rw [e1]; rfl
  have e2 := k1.createS f1
  have k2 := k1.create f1
  have s2 : kSt c 2 = createS (createS (newSt c) xL) xS := rfl
  have g2 : (kSt c 2).find xS = some emptyF := by rw [s2, e2, e1]; rfl
  have g1 : (kSt c 2).find xL = some emptyF := by rw [s2, e2, e1]; rfl
  have hc2 : (kSt c 2).cap = c.toNat := by rw [s2, e2, e1]; show (min (max c 0) 16777216).toNat = _; omega
  have hz2 : (kSt c 2).size = 0 := by rw [s2, e2, e1]; rfl
  have hzz : zeros24.size = 24 := by decide
  have hmo : more emptyF 0 zeros24.size = 24 := by decide
  obtain ⟨w1, w2, w3⟩ := calm_writeA (a := 0) (s := zeros24) (show Calm 2 (kSt c 2) from k2) g2 (Nat.zero_le _) (by rw [hmo]; omega) (by rw [hzz]; decide)
  rw [hmo] at w2
  refine ⟨fun j hj => ?_, k2, w1, w3, ⟨emptyF, ?_, rfl⟩, ⟨_, by unfold kEnd; rw [w2]; exact findS_same g2, (by show putB [] 0 zeros24.data.toList = slotsB []; decide +kernel)⟩, by unfold kEnd; rw [w2, hz2], by unfold kEnd; rw [w2]; exact hc2, ⟨_, g2, rfl, rfl⟩⟩
  · match j, hj with
    | 0, _ => exact ⟨k0.createE f0, rfl, ⟨k0.good.more (by decide), k0.lit, k0.down⟩⟩
    | 1, _ => exact ⟨k1.createE f1, rfl, ⟨k1.good.more (by decide), k1.lit, k1.down⟩⟩
  · unfold kEnd
    rw [w2, findS_other xLS]
    exact g1
theorem krefuses_any (c : Int) (h0 : 24 ≤ c) (h1 : c ≤ 16777216) (xb : Nat) (g : Gh) (w : World) (hd : DiskAt w g (newSt c)) (hx : w.cell? ⟨xb, 0, none⟩ = some (.pointer (some ⟨g.d, 0, none⟩))) (a : Option Addr) (cap : Nat) :
    Calls Tryz.prog 107 #[.pointer (some ⟨xb, 0, none⟩), .slice a 0 cap] w fun e w' => e = .returned (.int .i64 0) ∧ ∃ k, w' = w.drewN k := by
  have hD : Calls Tryz.prog 70 #[.pointer (some ⟨g.d, 0, none⟩)] w fun e w' => e = .returned (.bool false) ∧ w = w' := down_any g (newSt c) w hd
  have hcap : (newSt c).cap = c.toNat := by show (min (max c 0) 16777216).toNat = _; omega
  have hR := room_any g (newSt c) w hd (by show 0 ≤ _; omega) (by rw [hcap]; omega)
  have e : ((newSt c).cap : Int) - (newSt c).size = c := by rw [hcap]; show ((c.toNat : Nat) : Int) - ((0 : Nat) : Int) = c; omega
  rw [e] at hR
  have HD := Lib.hid hD
  have HR := Lib.hid hR
  clear hd hD hR hcap e
  have g1 : ¬ c < 24 := by omega
  go_enter Tryz.func107, Tryz.ntmps107
  go_wp2_with fail
  refine HD.out.mono ?_
  rintro e w1 ⟨rfl, rfl⟩
  go_wp2_with fail
  refine HR.out.mono ?_
  rintro e w1 ⟨rfl, y, rfl⟩
  go_wp2_with fail
  go_loopw [5, 20] (fun r i wr => r = .int .i64 c ∧ i = .int .i64 0 ∧ wr = w.drewN y) (fun _ _ _ => 0)
  case atStart => exact ⟨rfl, rfl, rfl⟩
  case round =>
    obtain ⟨rfl, rfl, rfl⟩ := hrel
    go_wp2_with fail
    go_ret
    exact ⟨rfl, y, rfl⟩
def KBegTo (c : Int) (g : Gh) (w : World) (e : Ending) (w' : World) : Prop := e = .returned (.int .i64 0) ∧ ∃ g', DiskAt w' g' (kEnd c) ∧ Gh.To w g g' w'
set_option maxHeartbeats 2000000 in
set_option maxRecDepth 100000 in
theorem kbegin_any (c : Int) (h0 : 24 ≤ c) (h1 : c ≤ 16777216) (xb : Nat) (g : Gh) (w : World) (hd : DiskAt w g (newSt c)) (hx : w.heap[xb]? = some (.cells #[.pointer (some ⟨g.d, 0, none⟩), .int .i64 0] 103 (0, 0))) (hout : xb ∉ g.fp) (a : Option Addr) (cap : Nat) :
    Calls Tryz.prog 57 #[.pointer (some ⟨xb, 0, none⟩), .slice a 0 cap] w (KBegTo c g w) := by
  obtain ⟨hcr, hk2, hwe, hke, _, _, _, _, hf2⟩ := kSt_facts c h0 h1
  have hx0 : w.cell? ⟨xb, 0, none⟩ = some (.pointer (some ⟨g.d, 0, none⟩)) := by simp [World.cell?, hx]
  have HRF := Lib.hid (krefuses_any c h0 h1 xb g w hd hx0 a cap)
  have HCR : Hid (∀ j, j < 2 → ∀ (W : World) (g' : Gh), DiskAt W g' (kSt c j) → g'.d = g.d → Calls Tryz.prog 108 #[.pointer (some ⟨g.d, 0, none⟩), .string (kNm j)] W (OpTo g' 0 (kSt c (j + 1)) W)) := Lib.hid (fun j hj W g' hW hg => by
    obtain ⟨e1, e2, k⟩ := hcr j hj
    have := create_any g' (kSt c j) (kNm j) W hW (by match j, hj with | 0, _ => decide | 1, _ => decide) k.good.fuse (by have := k.good.len; omega)
    rw [e1, e2, hg] at this
    exact this)
  have HWR : Hid (∀ (W : World) (g' : Gh), DiskAt W g' (kSt c 2) → g'.d = g.d → Calls Tryz.prog 76 #[.pointer (some ⟨g.d, 0, none⟩), .string xS, .int .i64 0, .string zeros24] W (OpTo g' 0 (kEnd c) W)) := Lib.hid (fun W g' hW hg => by
    obtain ⟨f, e1, e2, e3⟩ := hf2
    have := write_any g' (kSt c 2) xS ((0 : Nat) : Int) zeros24 W hW (by decide) hk2.good.fuse (by decide) hk2.good.cap hk2.good.size (by have := hk2.good.turn; omega) (fun f' hf' => by
      rw [e1] at hf'; cases hf'
      rw [e2, e3]
      exact ⟨by decide, by decide⟩)
    rw [hwe, hg] at this
    exact this)
  have HRP : Hid (∀ W, Calls Tryz.prog 109 #[.string ⟨#[0]⟩, .int .i64 24] W fun e w' => e = .returned (.string zeros24) ∧ Below W.heap.size W w') := Lib.hid (fun W => by
    have := Tryz.strings_Repeat ⟨#[0]⟩ 24 W (by decide) (by decide)
    have e : (⟨(Lib.repeatL (⟨#[0]⟩ : ByteArray).data.toList 24).toArray⟩ : ByteArray) = zeros24 := by decide
    rw [e] at this
    exact this)
  have HKEEP : Hid (∀ (W : World) (g' : Gh), Gh.To w g g' W → W.cell? ⟨xb, 0, none⟩ = some (.pointer (some ⟨g.d, 0, none⟩))) := Lib.hid (fun W g' t => by
    have := t.chg.heap hx hout
    simp [World.cell?, this])
  have HD := Lib.hid hd
  have i0 : ∀ w, (Instr.index 167 (.agg #[.string ⟨#[120, 45, 108, 105, 110, 107, 115]⟩, .string ⟨#[120, 45, 115, 108, 111, 116, 115]⟩]) (.int .i64 0)).run Tryz.prog w = .ok (.string xL) w := fun _ => by kernel_rfl
  have i1 : ∀ w, (Instr.index 167 (.agg #[.string ⟨#[120, 45, 108, 105, 110, 107, 115]⟩, .string ⟨#[120, 45, 115, 108, 111, 116, 115]⟩]) (.int .i64 1)).run Tryz.prog w = .ok (.string xS) w := fun _ => by kernel_rfl
  clear hcr hk2 hwe hke hf2 hd hx hout h0 h1
  go_enter Tryz.func57, Tryz.ntmps57
  go_wp2_with fail
  refine HRF.out.mono ?_
  rintro e w1 ⟨rfl, y, rfl⟩
  go_wp2_with fail
  go_loopw [29] (fun i wr => ∃ j : Nat, j ≤ 2 ∧ i = .int .i64 (j : Int) ∧ ∃ g', Hid (DiskAt wr g' (kSt c j)) ∧ Hid (Gh.To w g g' wr)) (fun i _ => 2 - (intOf i).toNat)
  case atStart => exact ⟨0, by decide, rfl, g, Lib.hid (HD.out.new ((Chg.refl _ _).drewN y)), Lib.hid (Gh.To.new g ((Chg.refl _ _).drewN y))⟩
  case round =>
    obtain ⟨j, hj, rfl, g', HDr, HTr⟩ := hrel
    have k0 := HKEEP.out wr g' HTr.out
    rcases (show j = 0 ∨ j = 1 ∨ j = 2 by omega) with rfl | rfl | rfl
    · have HC := Lib.hid (HCR.out 0 (by decide) wr g' HDr.out HTr.out.d)
      go_wp2_with fail
      refine HC.out.mono ?_
      rintro e w3 ⟨rfl, g3, hd3, ht3⟩
      have HR : Hid (DiskAt w3 g3 (kSt c 1) ∧ Gh.To w g g3 w3) := Lib.hid ⟨hd3, HTr.out.trans ht3⟩
      clear hd3 ht3
      go_wp2_with fail
      exact ⟨⟨1, by decide, rfl, g3, Lib.hid HR.out.1, Lib.hid HR.out.2⟩, by decide⟩
    · have HC := Lib.hid (HCR.out 1 (by decide) wr g' HDr.out HTr.out.d)
      go_wp2_with fail
      refine HC.out.mono ?_
      rintro e w3 ⟨rfl, g3, hd3, ht3⟩
      have HR : Hid (DiskAt w3 g3 (kSt c 2) ∧ Gh.To w g g3 w3) := Lib.hid ⟨hd3, HTr.out.trans ht3⟩
      clear hd3 ht3
      go_wp2_with fail
      exact ⟨⟨2, by decide, rfl, g3, Lib.hid HR.out.1, Lib.hid HR.out.2⟩, by decide⟩
    · go_upto_region 15 with fail
      have HWR' : Hid (∀ W, Below wr.heap.size wr W → Calls Tryz.prog 76 #[.pointer (some ⟨g.d, 0, none⟩), .string xS, .int .i64 0, .string zeros24] W (KBegTo c g w)) := Lib.hid (fun W hW => by
        refine (HWR.out W g' (HDr.out.new (Chg.of_below hW)) HTr.out.d).mono ?_
        rintro e w5 ⟨rfl, g5, hd5, ht5⟩
        exact ⟨rfl, g5, hd5, (HTr.out.trans (Gh.To.new g' (Chg.of_below hW))).trans ht5⟩)
      go_region_held3 (fun w' => w'.cell? ⟨xb, 0, none⟩ = some (.pointer (some ⟨g.d, 0, none⟩)))
        (first | exact k0 | go_keep)
        (first
          | (go_at_call 109
             refine (HRP.out _).mono ?_
             rintro e w2 ⟨rfl, hb2⟩
             have k0 := keep4 hb2 k0
             have HB2 := Lib.hid hb2
             clear hb2)
          | (go_at_call 76
             refine (HWR'.out _ ?_).mono ?_
             · repeat (first | exact Below.refl _ _ | with_reducible refine below_drewN ?_ _ | with_reducible refine Below.drew ?_ | refine below_on HB2.out ?_ (Nat.le_refl _))
             rintro e w5 ⟨rfl, g5, hd5, ht5⟩
             have k0 := HKEEP.out w5 g5 ht5
             have HR : Hid (DiskAt w5 g5 (kEnd c) ∧ Gh.To w g g5 w5) := Lib.hid ⟨hd5, ht5⟩
             clear hd5 ht5))
      all_goals
        go_wp2_with fail
        go_ret
        refine ⟨rfl, g5, ?_, ?_⟩
        · repeat (first | exact HR.out.1 | with_reducible refine DiskAt.drew ?_)
        · first | exact HR.out.2 | exact HR.out.2.trans (Gh.To.new g5 (Chg.refl _ _).drew) | exact HR.out.2.trans (Gh.To.new g5 ((Chg.refl _ _).drewN _))
def KNewTo (w0 : World) (g : Gh) (c : Int) (w : World) (e : Ending) (w' : World) : Prop := ∃ xb g', e = .returned (.tuple #[.pointer (some ⟨xb, 0, none⟩), .int .i64 0]) ∧ w.heap.size ≤ xb ∧ KxI w0 w' xb g' (kEnd c) 3 [] ∧ Gh.To w g g' w'
set_option maxHeartbeats 2000000 in
set_option maxRecDepth 100000 in
theorem knew_any {w0 w : World} {d : Nat} {g : Gh} (c : Int) (h0 : 24 ≤ c) (h1 : c ≤ 16777216) (hd : DiskG w0 w d g (newSt c)) :
    Calls Tryz.prog 26 #[.pointer (some ⟨d, 0, none⟩)] w (KNewTo w0 g c w) := by
  obtain ⟨_, _, _, hke, hl, hs, hz, _, _⟩ := kSt_facts c h0 h1
  obtain ⟨W1, hW1⟩ : ∃ W, W = w.alloc (.cells #[.pointer (some ⟨d, 0, none⟩), .int .i64 0] 103) := ⟨_, rfl⟩
  have hb1 : Below w.heap.size w W1 := hW1 ▸ (Below.refl _ _).alloc (Nat.le_refl _) _
  have hsz : W1.heap.size = w.heap.size + 1 := by rw [hW1, World.size_alloc]
  have hx1 : W1.heap[w.heap.size]? = some (.cells #[.pointer (some ⟨d, 0, none⟩), .int .i64 0] 103 (0, 0)) := by rw [hW1]; exact heap_alloc_new w _
  have k0 : W1.cell? ⟨w.heap.size, 0, none⟩ = some (.pointer (some ⟨d, 0, none⟩)) := by simp [World.cell?, hx1]
  have hd1 := hd.new (Chg.of_below hb1)
  have hout : w.heap.size ∉ g.fp := fun hx => Nat.lt_irrefl _ (hd.disk.lt _ hx)
  have hL := list_strs g (newSt c) kH W1 hd1.disk (by show 0 ≤ _; omega)
  have hnil : namesS kH (newSt c) = [] := List.eq_nil_of_length_eq_zero (Nat.le_zero.1 (namesS_length kH (newSt c)))
  rw [hnil, hd.d] at hL
  have HL := Lib.hid hL
  have HB : Hid (∀ (W : World) (a : Option Addr) (cap : Nat), Below W1.heap.size W1 W → Calls Tryz.prog 57 #[.pointer (some ⟨w.heap.size, 0, none⟩), .slice a 0 cap] W fun e w' => e = .returned (.int .i64 0) ∧ ∃ g', KxI w0 w' w.heap.size g' (kEnd c) 3 [] ∧ Gh.To w g g' w') := Lib.hid (fun W a cap hW => by
    have hcW : Chg (fun _ => False) W1 W := Chg.of_below hW
    have hdW := hd1.new hcW
    refine (kbegin_any c h0 h1 w.heap.size g W hdW.disk (by rw [hd.d]; exact hcW.heap hx1 (fun x => x)) hout a cap).mono ?_
    rintro e w' ⟨rfl, g', hd', t⟩
    have hsW := hcW.size
    have hst := t.chg.size
    refine ⟨rfl, g', ⟨⟨hd', rfl, hdW.chg.trans t.chg (fun i hi hx => by have := hd.low i hx; omega), fun q hq => ?_⟩, hke, ?_, hd.chg.size, fun hx => ?_, hl, hs, fun k hk => by cases hk⟩, (Gh.To.new g ((Chg.of_below hb1 : Chg (fun _ => False) w W1).trans hcW (fun _ _ x => x))).trans t⟩
    · rcases t.fp q hq with a1 | a1
      · exact hd.low q a1
      · have := hd.chg.size; omega
    · rw [t.d, hd.d]
      exact t.chg.heap (hcW.heap hx1 (fun x => x)) hout
    · rcases t.fp _ hx with a1 | a1
      · exact hout a1
      · omega)
  have HW1 := Lib.hid hW1
  clear hke hl hs hz hb1 hx1 hd1 hout hL hnil hd hW1
  go_enter Tryz.func26, Tryz.ntmps26
  go_upto_region 4 with fail
  rw [← HW1.out]
  go_wp2_with fail
  refine HL.out.mono ?_
  rintro e w2 ⟨v, rfl, hs2, hb2⟩
  obtain ⟨a, cap, rfl⟩ := hs2.form
  have HB2 := Lib.hid (HB.out w2 a cap hb2)
  clear hs2 hb2
  go_wp2_with fail
  refine HB2.out.mono ?_
  rintro e w3 ⟨rfl, g3, h3, t3⟩
  have H3 := Lib.hid h3
  have T3 := Lib.hid t3
  clear h3 t3
  go_wp2_with fail
  go_ret2
  exact ⟨_, g3, rfl, Nat.le_refl _, H3.out, T3.out⟩
def kaddE (t k : ByteArray) (x y : Int) : Int := if topicB t = true ∧ keyB k = true then (if (0 ≤ x ∧ x ≤ 1099511627776) ∧ 0 ≤ y ∧ y ≤ 1099511627776 then 0 else 1) else 11
def kaddR (R : List KE) (t k : ByteArray) (x y : Int) : List KE := if kaddE t k x y = 0 then ⟨numK t k, x.toNat, y.toNat⟩ :: R else R
def KPutTo (w0 w : World) (xb : Nat) (g : Gh) (st : St) (n : Nat) (R : List KE) (err : Int) (e : Ending) (w' : World) : Prop :=
  e = .returned (.int .i64 err) ∧ ∃ g' st', KxI w0 w' xb g' st' (n + 2) R ∧ XTo xb w g g' w' ∧ st'.cap = st.cap ∧ (st'.size = if err = 0 then st.size + 20 else st.size) ∧ Others kH st st' ∧ st'.fs.map (·.1) = st.fs.map (·.1)
theorem Calm_more {n n' : Nat} {st : St} (h : Calm n st) (hn : n ≤ n') : Calm n' st := ⟨h.good.more hn, h.lit, h.down⟩
theorem KxI.more {w0 w : World} {xb : Nat} {g : Gh} {st : St} {n n' : Nat} {R : List KE} (h : KxI w0 w xb g st n R) (hn : n ≤ n') : KxI w0 w xb g st n' R := ⟨h.disk, Calm_more h.calm hn, h.cell, h.low, h.out, h.lnk, h.slt, h.ok⟩
set_option maxHeartbeats 4000000 in
set_option maxRecDepth 100000 in
theorem kput_any {w0 w : World} {xb : Nat} {g : Gh} {st : St} {n : Nat} {R : List KE} (h : KxI w0 w xb g st n R) (hn : n ≤ 1000000) (hl : R.length ≤ 100000) (hcap : st.size + 20 ≤ st.cap) (t k : ByteArray) (ht : t.size ≤ maxLen) (hk : k.size ≤ maxLen) (x y : Int) :
    Calls Tryz.prog 113 #[.pointer (some ⟨xb, 0, none⟩), .string t, .string k, .int .i64 x, .int .i64 y] w (KPutTo w0 w xb g st n (kaddR R t k x y) (kaddE t k x y)) := by
  have HT := fun W => Lib.hid (topic_any t W ht)
  have HKK := fun W => Lib.hid (key_any k W hk)
  have hsame : ∀ (er : Int), er ≠ 0 → ∀ w', Chg (fun _ => False) w w' → ∃ g' st', KxI w0 w' xb g' st' (n + 2) R ∧ XTo xb w g g' w' ∧ st'.cap = st.cap ∧ (st'.size = if er = 0 then st.size + 20 else st.size) ∧ Others kH st st' ∧ st'.fs.map (·.1) = st.fs.map (·.1) := fun er her w' hc => ⟨g, st, (h.new hc).more (by omega), XTo.new g hc, rfl, (if_neg her).symm, Others.refl _ _, rfl⟩
  have HS := Lib.hid hsame
  have hAE : kaddE t k x y = if topicB t = true ∧ keyB k = true then (if (0 ≤ x ∧ x ≤ 1099511627776) ∧ 0 ≤ y ∧ y ≤ 1099511627776 then 0 else 1) else 11 := rfl
  have hAR : kaddR R t k x y = if kaddE t k x y = 0 then ⟨numK t k, x.toNat, y.toNat⟩ :: R else R := rfl
  cases ht0 : topicB t with
  | false =>
    rw [ht0] at HT
    rw [if_neg (by rw [ht0]; simp)] at hAE
    rw [hAE, if_neg (by decide)] at hAR
    rw [hAE, hAR]
    clear h hAE hAR hsame
    go_enter Tryz.func113, Tryz.ntmps113
    go_wp2_with fail
    refine (HT _).out.mono ?_
    rintro e w2 ⟨rfl, hb2⟩
    go_wp2_with fail
    go_ret
    exact ⟨rfl, HS.out _ (by decide) _ (Chg.of_below hb2)⟩
  | true =>
    rw [ht0] at HT
    cases hk0 : keyB k with
    | false =>
      rw [hk0] at HKK
      rw [if_neg (by rw [hk0]; simp)] at hAE
      rw [hAE, if_neg (by decide)] at hAR
      rw [hAE, hAR]
      clear h hAE hAR hsame
      go_enter Tryz.func113, Tryz.ntmps113
      go_wp2_with fail
      refine (HT _).out.mono ?_
      rintro e w2 ⟨rfl, hb2⟩
      have HB2 := Lib.hid hb2
      clear hb2
      go_wp2_with fail
      refine (HKK _).out.mono ?_
      rintro e w3 ⟨rfl, hb3⟩
      have HB3 := Lib.hid (below_on hb3 HB2.out (Nat.le_refl _))
      clear hb3
      go_wp2_with fail
      go_ret
      exact ⟨rfl, HS.out _ (by decide) _ (Chg.of_below HB3.out)⟩
    | true =>
      rw [hk0] at HKK
      rw [if_pos ⟨ht0, hk0⟩] at hAE
      have HRX := fun W => Lib.hid (kright_any x W)
      have HRY := fun W => Lib.hid (kright_any y W)
      by_cases hx : 0 ≤ x ∧ x ≤ 1099511627776
      · rw [decide_eq_true hx] at HRX
        by_cases hy : 0 ≤ y ∧ y ≤ 1099511627776
        · rw [decide_eq_true hy] at HRY
          rw [if_pos ⟨hx, hy⟩] at hAE
          rw [hAE, if_pos rfl] at hAR
          rw [hAE, hAR]
          clear hAE hAR
          have HN := fun W => Lib.hid (number_any t k W ht hk)
          have hnl := numK_lt t k
          obtain ⟨h0, hh0⟩ : ∃ h0, h0 = numK t k := ⟨_, rfl⟩
          rw [← hh0] at HN hnl ⊢
          have hmod : ((h0 : Int).tmod 8) = ((h0 % 8 : Nat) : Int) := by rw [Int.tmod_eq_emod_of_nonneg (by omega)]; omega
          have hlast : ∀ W, Below w.heap.size w W → Calls Tryz.prog 94 #[.pointer (some ⟨xb, 0, none⟩), .int .i64 ((h0 % 8 : Nat) : Int)] W fun e w' => e = .returned (.tuple #[.int .i64 (lastR R (h0 % 8) : Nat), .int .i64 0]) ∧ Below W.heap.size W w' := fun W hW => klast_any (h.new (Chg.of_below hW)) (by omega) (h0 % 8) (Nat.mod_lt _ (by decide))
          have hadd : ∀ W, Below w.heap.size w W → Calls Tryz.prog 159 #[.pointer (some ⟨xb, 0, none⟩), .agg #[.int .i64 (h0 : Int), .int .i64 x, .int .i64 y, .int .i64 (lastR R (h0 % 8) : Nat)]] W (KPutTo w0 w xb g st n (⟨h0, x.toNat, y.toNat⟩ :: R) 0) := fun W hW => by
            have := kadd_any (h.new (Chg.of_below hW)) hn hl ⟨h0, x.toNat, y.toNat⟩ ⟨hnl, by show x.toNat ≤ _; omega, by show y.toNat ≤ _; omega⟩ hcap
            unfold linkV at this
            dsimp only at this
            rw [show ((x.toNat : Nat) : Int) = x by omega, show ((y.toNat : Nat) : Int) = y by omega] at this
            refine this.mono ?_
            rintro e w' ⟨rfl, g', st', a1, a2, a3, a4, a5⟩
            exact ⟨rfl, g', st', a1, (XTo.new g (Chg.of_below hW)).trans a2, a3, a4, a5⟩
          obtain ⟨la, hla⟩ : ∃ la, la = lastR R (h0 % 8) := ⟨_, rfl⟩
          rw [← hla] at hlast hadd
          obtain ⟨bi, hbi⟩ : ∃ bi : Int, bi = ((h0 % 8 : Nat) : Int) := ⟨_, rfl⟩
          rw [← hbi] at hlast hmod
          have HLA := Lib.hid hlast
          have HAD := Lib.hid hadd
          clear h hlast hadd hla hbi hh0 hsame ht0 hk0
          go_enter Tryz.func113, Tryz.ntmps113
          go_wp2_with fail
          refine (HT _).out.mono ?_
          rintro e w2 ⟨rfl, hb2⟩
          have HB2 := Lib.hid hb2
          clear hb2
          go_wp2_with fail
          refine (HKK _).out.mono ?_
          rintro e w3 ⟨rfl, hb3⟩
          have HB3 := Lib.hid (below_on hb3 HB2.out (Nat.le_refl _))
          clear hb3
          go_wp2_with fail
          refine (HRX _).out.mono ?_
          rintro e w4 ⟨rfl, rfl⟩
          go_wp2_with fail
          refine (HRY _).out.mono ?_
          rintro e w4 ⟨rfl, rfl⟩
          go_wp2_with fail
          refine (HN _).out.mono ?_
          rintro e w4 ⟨rfl, hb4⟩
          have HB4 := Lib.hid (below_on hb4 HB3.out (Nat.le_refl _))
          clear hb4
          go_wp2_with fail
          refine (HLA.out _ HB4.out).mono ?_
          rintro e w5 ⟨rfl, hb5⟩
          have HB5 := Lib.hid (below_on hb5 HB4.out (Nat.le_refl _))
          clear hb5
          go_wp2_with fail
          refine (HAD.out _ HB5.out).mono ?_
          rintro e w6 ⟨rfl, h6⟩
          have H6 := Lib.hid h6
          clear h6
          go_wp2_with fail
          go_ret
          exact ⟨rfl, H6.out⟩
        · rw [decide_eq_false hy] at HRY
          rw [if_neg (fun hx' => hy hx'.2)] at hAE
          rw [hAE, if_neg (by decide)] at hAR
          rw [hAE, hAR]
          clear h hAE hAR hsame
          go_enter Tryz.func113, Tryz.ntmps113
          go_wp2_with fail
          refine (HT _).out.mono ?_
          rintro e w2 ⟨rfl, hb2⟩
          have HB2 := Lib.hid hb2
          clear hb2
          go_wp2_with fail
          refine (HKK _).out.mono ?_
          rintro e w3 ⟨rfl, hb3⟩
          have HB3 := Lib.hid (below_on hb3 HB2.out (Nat.le_refl _))
          clear hb3
          go_wp2_with fail
          refine (HRX _).out.mono ?_
          rintro e w4 ⟨rfl, rfl⟩
          go_wp2_with fail
          refine (HRY _).out.mono ?_
          rintro e w4 ⟨rfl, rfl⟩
          go_wp2_with fail
          go_ret
          exact ⟨rfl, HS.out _ (by decide) _ (Chg.of_below HB3.out)⟩
      · rw [decide_eq_false hx] at HRX
        rw [if_neg (fun hx' => hx hx'.1)] at hAE
        rw [hAE, if_neg (by decide)] at hAR
        rw [hAE, hAR]
        clear h hAE hAR hsame
        go_enter Tryz.func113, Tryz.ntmps113
        go_wp2_with fail
        refine (HT _).out.mono ?_
        rintro e w2 ⟨rfl, hb2⟩
        have HB2 := Lib.hid hb2
        clear hb2
        go_wp2_with fail
        refine (HKK _).out.mono ?_
        rintro e w3 ⟨rfl, hb3⟩
        have HB3 := Lib.hid (below_on hb3 HB2.out (Nat.le_refl _))
        clear hb3
        go_wp2_with fail
        refine (HRX _).out.mono ?_
        rintro e w4 ⟨rfl, rfl⟩
        go_wp2_with fail
        go_ret
        exact ⟨rfl, HS.out _ (by decide) _ (Chg.of_below HB3.out)⟩
end Go.Proofs.YtdnhgodfmjapmaaGreatDoor
