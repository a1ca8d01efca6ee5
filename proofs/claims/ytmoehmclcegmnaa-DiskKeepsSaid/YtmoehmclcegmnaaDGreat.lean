/-
  The contract of Great.
-/
import Derived.Test.YtmoehmclcegmnaaDDo
namespace Go.Proofs.Ytmoehmclcegmnaa
open Go.RowKit Go.Deep
attribute [local go_sem] fr_opt

/-- One operation in its eight cells. -/
structure OpAt (w : World) (b o : Nat) (x : OpM) : Prop where
  kind : w.cell? ⟨b, o, none⟩ = some (.int .i64 x.kind)
  at_ : w.cell? ⟨b, o + 1, none⟩ = some (.int .i64 x.at_)
  name : w.cell? ⟨b, o + 2, none⟩ = some (.string x.name)
  to_ : w.cell? ⟨b, o + 3, none⟩ = some (.string x.to_)
  data : w.cell? ⟨b, o + 4, none⟩ = some (.string x.data)
  names : w.cell? ⟨b, o + 5, none⟩ = some x.vn
  keep : w.cell? ⟨b, o + 6, none⟩ = some x.vk
  lack : w.cell? ⟨b, o + 7, none⟩ = some (.int .i64 x.lack)
  strs : Strs w 0 x.vn x.names
  bools : BoolsOf w x.vk x.bs
theorem OpAt.new {w w' : World} {b o : Nat} {x : OpM} (h : OpAt w b o x) (hc : Chg (fun _ => False) w w') : OpAt w' b o x := by
  have hs : Strs w' 0 x.vn x.names := by
    obtain ⟨a, cap, h1, h2⟩ := h.strs
    refine ⟨a, cap, h1, ?_⟩
    rcases h2 with h2 | ⟨b, of, h3, h4, h5⟩
    · exact .inl h2
    · exact .inr ⟨b, of, h3, h4, fun i hi => hc.cell (h5 i hi) (fun x => x)⟩
  exact ⟨hc.cell h.kind (fun x => x), hc.cell h.at_ (fun x => x), hc.cell h.name (fun x => x), hc.cell h.to_ (fun x => x), hc.cell h.data (fun x => x), hc.cell h.names (fun x => x), hc.cell h.keep (fun x => x), hc.cell h.lack (fun x => x), hs, h.bools.chg hc (fun _ _ _ _ _ x => x)⟩
/-- A slice of operations. -/
def OpsAt (w : World) (v : Value) (os : List OpM) : Prop :=
  ∃ a cap, v = .slice a os.length cap ∧ (os = [] ∨ ∃ b o, a = some ⟨b, o, none⟩ ∧ ∀ i x, os[i]? = some x → OpAt w b (o + i * 8) x)
theorem OpsAt.new {w w' : World} {v : Value} {os : List OpM} (h : OpsAt w v os) (hc : Chg (fun _ => False) w w') : OpsAt w' v os := by
  obtain ⟨a, cap, h1, h2⟩ := h
  refine ⟨a, cap, h1, ?_⟩
  rcases h2 with h2 | ⟨b, o, h3, h4⟩
  · exact .inl h2
  · exact .inr ⟨b, o, h3, fun i x hx => (h4 i x hx).new hc⟩
/-- What an operation keeps, where it isn't too great. -/
def Small (x : OpM) : Prop := x.name.size ≤ 20 ∧ x.to_.size ≤ 20 ∧ x.data.size ≤ 300 ∧ x.names.length ≤ 10 ∧ x.bs.length ≤ 200 ∧ ∀ t ∈ x.names, t.size ≤ 20
def GreatTo (os : List OpM) (w : World) (e : Ending) (w' : World) : Prop := ∃ b, e = .returned (.bool b) ∧ Chg (fun _ => False) w w' ∧ (b = false → os.length ≤ 100 ∧ ∀ x ∈ os, Small x)

set_option maxHeartbeats 4000000 in
set_option maxRecDepth 100000 in
theorem great_any (v : Value) (os : List OpM) (w : World) (h : OpsAt w v os) (hl : os.length ≤ maxLen) :
    Calls Try.prog 7 #[v] w (GreatTo os w) := by
  obtain ⟨a, cap, rfl, hcells⟩ := h
  obtain ⟨n, hn⟩ : ∃ n, n = os.length := ⟨_, rfl⟩
  have HN := Lib.hid hn
  have HC := Lib.hid hcells
  rw [← hn] at hl ⊢
  clear hn hcells
  go_enter Try.func7, Try.ntmps7
  by_cases h100 : 100 < n
  · go_wp2_with fail
    go_ret
    exact ⟨true, rfl, Chg.refl _ _, fun x => (by cases x)⟩
  · go_wp2_with fail
    go_loopw [2, 4, 6, 12] (fun r _ _ i wr => r = .bool false ∧ ∃ k : Nat, k ≤ n ∧ i = .int .i64 k ∧ Chg (fun _ => False) w wr ∧ ∀ j x, j < k → os[j]? = some x → Small x) (fun _ _ _ i _ => n - (intOf i).toNat)
    case atStart => exact ⟨rfl, 0, Nat.zero_le _, rfl, Chg.refl _ _, fun j x hj => absurd hj (Nat.not_lt_zero _)⟩
    case round =>
      obtain ⟨rfl, k, hk, rfl, hch, hsm⟩ := hrel
      have HCH := Lib.hid hch
      have HSM := Lib.hid hsm
      clear hch hsm
      by_cases hlt : k < n
      · obtain ⟨x, hx⟩ : ∃ x, os[k]? = some x := ⟨_, List.getElem?_eq_getElem (by rw [← HN.out]; exact hlt)⟩
        obtain ⟨b, o, ha, hat⟩ : ∃ b o, a = some ⟨b, o, none⟩ ∧ OpAt wr b (o + k * 8) x := by
          rcases HC.out with h0 | ⟨b, o, h1, h2⟩
          · rw [h0] at hx; cases hx
          · exact ⟨b, o, h1, (h2 k x hx).new HCH.out⟩
        subst ha
        obtain ⟨kd, at_, nm, to_, data, vn, names, vk, bs, lack⟩ := x
        obtain ⟨c0, c1, c2, c3, c4, c5, c6, c7, hst, hbo⟩ := hat
        obtain ⟨an, cn, hvn⟩ := hst.form
        obtain ⟨ak, ck, hvk, _⟩ := id hbo
        simp only at hvn hvk c0 c1 c2 c3 c4 c5 c6 c7
        obtain ⟨nn, hnn⟩ : ∃ k, k = names.length := ⟨_, rfl⟩
        obtain ⟨nk, hnk⟩ : ∃ k, k = bs.length := ⟨_, rfl⟩
        rw [← hnn] at hvn
        rw [← hnk] at hvk
        subst hvn
        subst hvk
        have HST := Lib.hid hst
        have HX := Lib.hid hx
        have HNN := Lib.hid hnn
        have HNK := Lib.hid hnk
        clear hst hbo hx hnn hnk
        obtain ⟨W1, hW1⟩ : ∃ W, W = wr.alloc (.cells #[.int .i64 kd, .int .i64 at_, .string nm, .string to_, .string data, .slice an nn cn, .slice ak nk ck, .int .i64 lack] 36) := ⟨_, rfl⟩
        have hc1 : Chg (fun _ => False) wr W1 := hW1 ▸ Chg.alloc _ (Chg.refl _ _) _
        have HC1 := Lib.hid hc1
        have HST1 : Hid (Strs W1 0 (.slice an nn cn) names) := by
          obtain ⟨a, cap, h1, h2⟩ := HST.out
          refine ⟨a, cap, h1, ?_⟩
          rcases h2 with h2 | ⟨b, of, h3, h4, h5⟩
          · exact .inl h2
          · exact .inr ⟨b, of, h3, h4, fun i hi => hc1.cell (h5 i hi) (fun x => x)⟩
        have HW1 := Lib.hid hW1
        clear hc1 hW1
        go_wp2_with fail
        all_goals try (go_ret; exact ⟨true, rfl, HCH.out.trans (HW1.out ▸ HC1.out) (fun _ _ x => x), fun x => (by cases x)⟩)
        rw [← HW1.out]
        go_loopw [2, 6, 48] (fun r _ i wr2 => r = .bool false ∧ ∃ j : Nat, j ≤ nn ∧ i = .int .i64 j ∧ wr2 = W1 ∧ ∀ q, q < j → (names.getD q ⟨#[]⟩).size ≤ 20) (fun _ _ i _ => nn - (intOf i).toNat)
        case atStart => exact ⟨rfl, 0, Nat.zero_le _, rfl, rfl, fun q hq => absurd hq (Nat.not_lt_zero _)⟩
        case round =>
          obtain ⟨rfl, j, hj, rfl, hwr, hsq⟩ := hrel
          subst hwr
          have HSQ := Lib.hid hsq
          clear hsq
          by_cases hjl : j < nn
          · obtain ⟨b2, o2, han, hcell⟩ := HST1.out.cellAt (i := j) (by rw [← HNN.out]; exact hjl)
            subst han
            obtain ⟨t, ht⟩ : ∃ t, t = names.getD j ⟨#[]⟩ := ⟨_, rfl⟩
            rw [← ht] at hcell
            have HT := Lib.hid ht
            clear ht
            by_cases h20 : 20 < t.size
            · go_wp2_with fail
              go_ret
              exact ⟨true, rfl, HCH.out.trans HC1.out (fun _ _ x => x), fun x => (by cases x)⟩
            · go_wp2_with fail
              refine ⟨⟨(by first | rfl | trivial), j + 1, by omega, by go_num, (by first | rfl | trivial), fun q hq => ?_⟩, by simp [intOf]; omega⟩
              by_cases hqj : q = j
              · subst hqj; rw [← HT.out]; omega
              · exact HSQ.out q (by omega)
          · go_wp2_with fail
            refine ⟨⟨rfl, k + 1, by omega, by go_num, HCH.out.trans HC1.out (fun _ _ x => x), fun q x hq hx => ?_⟩, by simp [intOf]; omega⟩
            by_cases hqk : q = k
            · subst hqk
              have hx2 := HX.out
              rw [hx] at hx2
              obtain rfl := Option.some.inj hx2
              have h1 := HNN.out
              have h2 := HNK.out
              refine ⟨by show nm.size ≤ 20; omega, by show to_.size ≤ 20; omega, by show data.size ≤ 300; omega, by show names.length ≤ 10; omega, by show bs.length ≤ 200; omega, fun t ht => ?_⟩
              obtain ⟨q, hql, rfl⟩ := List.mem_iff_getElem.1 ht
              have hqj : q < j := by show q < j; have : q < names.length := hql; omega
              have h3 := HSQ.out q hqj
              rw [List.getD_eq_getElem?_getD, List.getElem?_eq_getElem hql] at h3
              exact h3
            · exact HSM.out q x (by omega) hx
      · go_wp2_with fail
        go_ret
        refine ⟨false, rfl, HCH.out, fun _ => ⟨by rw [← HN.out]; omega, fun x hx => ?_⟩⟩
        obtain ⟨q, hq, rfl⟩ := List.mem_iff_getElem.1 hx
        exact HSM.out q _ (by rw [← HN.out] at hq; omega) (List.getElem?_eq_getElem hq)
end Go.Proofs.Ytmoehmclcegmnaa
