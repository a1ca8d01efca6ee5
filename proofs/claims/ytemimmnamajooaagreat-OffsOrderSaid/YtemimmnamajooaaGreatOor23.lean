/- A part. -/
import Derived.Deep.RegionHeld3
import Derived.Test.YtemimmnamajooaaGreatOor22
set_option linter.unusedVariables false
set_option linter.unusedSimpArgs false
namespace Go.Proofs.YtemimmnamajooaaGreat
open Go.RowKit Go.Deep Go.ChangeMaps Go.WideShapes
open Go.Maps (Keyed)
attribute [local go_sem] fr_opt
theorem length_sorted' {l : List (Lit × DataW Unit)} {es : List Ent} (h : l.Perm (es.map pairOf)) : l.length = es.length := by rw [h.length_eq, List.length_map]
theorem MapIn.len {w : World} {mb : Option Nat} {es : List Ent} (h : MapIn w mb es) (T : TypeId) :
    (Builtin.len_ #[57] T #[.map mb]).run Tryz.prog w = .ok (.int .i64 (es.length : Nat)) w := by
  have h2 := h.2
  cases mb with
  | none =>
    have h2 : es = [] := h2
    subst h2
    simp [Builtin.len_, run_underlying Tryz.underlying57, Result.andThen]
    rfl
  | some m =>
    obtain ⟨l, ⟨ees, clock, hb, F, hs, hD⟩, hp⟩ := h2
    have hl : ees.size = es.length := by
      have h1 := length_sorted' hp
      injection hD with hD
      rw [← h1, hD, length_sorted]
      simp
    simp [Builtin.len_, run_underlying Tryz.underlying57, MapKept.run_getObj_map hb, Result.andThen]
    rw [hl]
    rfl
set_option maxRecDepth 100000 in
theorem MapIn.look2 {w : World} {mb : Option Nat} {es : List Ent} (h : MapIn w mb es) (nm : ByteArray) (hl : nm.size ≤ maxLen) {e1 : Ent} (he1 : getE es nm = some e1) :
    (Instr.lookup 57 (.map mb) (.string nm) true).run Tryz.prog w = .ok (.tuple #[pk e1.blk, .bool true]) w := by
  have hkey : keyOf Tryz.prog 9 (.string nm) = some (.string nm.data.toList) := WideMaps.keyOf_string_mk Tryz.underlying9 hl
  have h2 := h.2
  cases mb with
  | none =>
    have h2 : es = [] := h2
    subst h2
    cases he1
  | some m =>
    obtain ⟨l, ⟨ees, clock, hb, F, hs, hD⟩, hp⟩ := h2
    have hD' := hD
    injection hD' with hD'
    rcases Maps.fit_look true law_key Tryz.underlying57 (zero_file w) hb F hkey with ⟨hrun, _, hat⟩ | ⟨e0, y, _, _, hrun, hRv, hat, _⟩
    · exfalso
      rw [← hD'] at hat
      obtain ⟨hm, rfl⟩ := getE_mem he1
      have hml : pairOf e1 ∈ l := hp.mem_iff.2 (List.mem_map_of_mem hm)
      have h1 := hat .nil
      cases h3 : l.find? (fun p => p.1.sameKey (.string e1.name.data.toList)) with
      | none =>
        have := (List.find?_eq_none.1 h3) _ hml
        rw [key_same] at this
        simp at this
      | some p =>
        have h4 := List.mem_of_find?_eq_some h3
        obtain ⟨e', _, rfl⟩ := List.mem_map.1 (hp.mem_iff.1 h4)
        unfold DataW.atKey at h1
        simp only at h1
        rw [h3] at h1
        cases h1
    · rw [← hD'] at hat
      obtain ⟨b, hv, rfl⟩ := ptrElem_inv hRv
      have h1 := hat .nil
      unfold DataW.atKey at h1
      simp only at h1
      cases h3 : l.find? (fun p => p.1.sameKey (.string nm.data.toList)) with
      | none => rw [h3] at h1; cases h1
      | some p =>
        rw [h3] at h1
        have h4 := List.mem_of_find?_eq_some h3
        have h5 : p.1.sameKey (.string nm.data.toList) = true := List.find?_some (p := fun p : Lit × DataW Unit => p.1.sameKey (.string nm.data.toList)) h3
        obtain ⟨e, he, rfl⟩ := List.mem_map.1 (hp.mem_iff.1 h4)
        rw [key_same] at h5
        obtain rfl := of_decide_eq_true h5
        have h8 := getE_of h.1 he
        rw [he1] at h8
        obtain rfl := Option.some.inj h8
        have h6 : (DataW.lit (.int .i64 (e1.blk : Int)) : DataW Unit) = .lit (.int .i64 (b : Int)) := h1
        have h7 : e1.blk = b := by injection h6 with h6; injection h6 with _ h6; omega
        rw [hrun, hv, ← h7]
        rfl
set_option maxRecDepth 100000 in
theorem equal_any (v1 v2 : Value) (xs : List UInt8) (w : World) (h1 : BytesAt w v1 xs) (h2 : BytesAt w v2 xs) :
    Calls Tryz.prog 51 #[v1, v2] w fun e w' => e = .returned (.bool true) ∧ w' = w := by
  have t1 := bytes_text h1
  have t2 := bytes_text h2
  obtain ⟨p1, c1, e1⟩ := h1.slice
  obtain ⟨p2, c2, e2⟩ := h2.slice
  subst e1
  subst e2
  clear h1 h2
  go_enter Tryz.func51, Tryz.ntmps51
  go_wp2_with fail
  go_ret
  exact ⟨by simp, rfl⟩
set_option maxRecDepth 100000 in
theorem same1_any (a b : Ent) (w : World) (ha : EntAt w a) (hb : EntAt w b) (hx : b.f.bytes = a.f.bytes) :
    Calls Tryz.prog 50 #[pk a.blk, pk b.blk] w fun e w' => e = .returned (.bool true) ∧ ∃ q, w' = w.drewN q := by
  have k1 := ha.cells.2.1
  have k2 := hb.cells.2.1
  have hE : ∀ n, Calls Tryz.prog 51 #[a.vb, b.vb] (w.drewN n) fun e w' => e = .returned (.bool true) ∧ w' = w.drewN n := fun n => equal_any _ _ a.f.bytes _ (ha.drewN n).bytes (hx ▸ (hb.drewN n).bytes)
  obtain ⟨p1, c1, e1⟩ := ha.bytes.slice
  obtain ⟨p2, c2, e2⟩ := hb.bytes.slice
  obtain ⟨n1, hn1⟩ : ∃ n, n = a.f.bytes.length := ⟨_, rfl⟩
  obtain ⟨n2, hn2⟩ : ∃ n, n = b.f.bytes.length := ⟨_, rfl⟩
  rw [e1, ← hn1] at k1
  rw [e2, ← hn2] at k2
  rw [e1, e2, ← hn1, ← hn2] at hE
  have HE := Lib.hid hE
  unfold pk
  clear hE ha hb hx e1 e2 hn1 hn2
  go_enter Tryz.func50, Tryz.ntmps50
  go_wp2_with fail
  go_quiet ((go_at_call 51; exact Calls.quiet_of_same (HE.out _)))
  go_wp2_with fail
  go_ret
  exact ⟨rfl, _, rfl⟩
def SameSt (a b : St) : Prop := a.fs.length = b.fs.length ∧ ∀ nm f, a.find nm = some f → ∃ f', b.find nm = some f' ∧ f'.bytes = f.bytes
set_option maxHeartbeats 1000000 in
set_option maxRecDepth 100000 in
theorem eqf_any (g1 g2 : Gh) (s1 s2 : St) (w : World) (h1 : DiskAt w g1 s1) (h2 : DiskAt w g2 s2) (hs : SameSt s1 s2) (hm : ∀ p ∈ s1.fs, p.1.size ≤ maxLen) :
    Calls Tryz.prog 49 #[.map g1.mb, .map g2.mb, .func (.func 50) #[] #[]] w fun e w' => e = .returned (.bool true) ∧ Below w.heap.size w w' := by
  have hl1 := fun T => h1.map.len T
  have hl2 := fun T => h2.map.len T
  have hle : g1.es.length = g2.es.length := by
    have e1 := congrArg List.length h1.fs
    have e2 := congrArg List.length h2.fs
    rw [List.length_map] at e1 e2
    rw [e1, e2]
    exact hs.1
  rw [← hle] at hl2
  obtain ⟨n, hn⟩ : ∃ n, n = g1.es.length := ⟨_, rfl⟩
  rw [← hn] at hl1 hl2
  obtain ⟨R, hR⟩ : ∃ R, R = w.heap.size := ⟨_, rfl⟩
  have HR := Lib.hid hR
  have H1 := Lib.hid h1
  have H2 := Lib.hid h2
  have HS := Lib.hid hs
  have HM := Lib.hid hm
  clear h1 h2 hs hm hle hn
  go_enter Tryz.func49, Tryz.ntmps49
  go_wp2_with (at_range; refine wpList_range_ents rfl _ rfl g1.mb g1.es rfl H1.out.map ?_; intro w0 cnt0 hrg0 hg0 hs0)
  rw [← hR] at hrg0 ⊢
  go_frame
  have HRG := Lib.hid hrg0
  have HG0 := Lib.hid hg0
  clear hrg0 hg0 hs0 hR hl1 hl2
  go_loopw [6, 7, 8, 9, 10] (fun r _ _ _ _ wr => r = .bool false ∧ ∃ vis rem cnt, RangeIn wr g1.mb R g1.es vis rem cnt ∧ Below w.heap.size w wr) (fun _ _ _ _ _ wr => toCome g1.mb wr R)
  case atStart => exact ⟨rfl, [], _, _, HRG.out, below_grown (Below.refl _ _) HG0.out (Nat.le_refl _)⟩
  case round =>
    obtain ⟨rfl, vis, rem, cnt, hrg, hbl⟩ := hrel
    have HRG1 := Lib.hid hrg
    have HBL := Lib.hid hbl
    clear hrg hbl HRG
    go_wp2_with (at_next; refine wpList_next_ents rfl _ rfl g1.mb R g1.es vis rem cnt rfl HRG1.out ?cd ?cm)
    case cd =>
      intro hrem
      clear hrem
      go_wp2_with fail
      go_ret
      exact ⟨rfl, HBL.out⟩
    case cm =>
      intro e r1 r2 w2 cnt2 hrem hmb hrg2 hlt hg2 hs2 hen
      obtain ⟨m, hm⟩ : ∃ m, g1.mb = some m := by
        cases hq : g1.mb with
        | none => exact absurd hq hmb
        | some m => exact ⟨m, rfl⟩
      have hp := HRG1.out.perm
      rw [hrem] at hp
      have hem : e ∈ g1.es := hp.mem_iff.1 (List.mem_append_right _ (List.mem_append_right _ (List.mem_cons_self ..)))
      have hbl2 : Below w.heap.size w w2 := below_grown' HBL.out hg2 (Nat.le_refl _) (by rw [HR.out]; exact Nat.le_refl _)
      have hc2 : Chg (fun _ => False) w w2 := Chg.of_below hbl2
      have hE : EntAt w2 e := (H1.out.ents e hem).chg hc2 (fun _ _ x => x)
      have hf1 : s1.find e.name = some e.f := by rw [← H1.out.find, getE_of H1.out.map.1 hem]; rfl
      obtain ⟨f', hf2, hfb⟩ := HS.out.2 _ _ hf1
      obtain ⟨e2, he2, hg2e, hef2, hen2⟩ := H2.out.found hf2
      have hE2 : EntAt w2 e2 := (H2.out.ents e2 he2).chg hc2 (fun _ _ x => x)
      have hsz : e.name.size ≤ maxLen := HM.out (e.name, e.f) (by rw [← H1.out.fs]; exact List.mem_map_of_mem (f := nf) hem)
      have hlk := (H2.out.map.chg hc2 (fun _ _ x => x)).look2 e.name hsz hg2e
      have hC : ∀ W, Chg (fun _ => False) w2 W → Calls Tryz.prog 50 #[pk e.blk, pk e2.blk] W fun e w' => e = .returned (.bool true) ∧ ∃ q, w' = W.drewN q := fun W hcw =>
        same1_any e e2 W (hE.chg hcw (fun _ _ x => x)) (hE2.chg hcw (fun _ _ x => x)) (by rw [hef2, hfb])
      have hme : toCome g1.mb w2 R < toCome g1.mb wr R := by
        rw [hm] at hrg2 ⊢
        have h1 := hrg2.toCome
        have h2 := HRG1.out
        rw [hm] at h2
        rw [h1, h2.toCome]
        exact hlt
      have HRG2 := Lib.hid hrg2
      have HBL2 := Lib.hid hbl2
      have HME := Lib.hid hme
      have HC := Lib.hid hC
      have HMQ := Lib.hid hm
      clear hp hrem hmb hrg2 hlt hg2 hs2 hem hbl2 hE hE2 hf1 hf2 hfb he2 hg2e hef2 hen2 hsz hC hme hc2 hm HRG1 HBL
      unfold pk at hlk
      go_wp2_with fail
      refine (HC.out _ (Chg.refl _ _)).mono ?_
      rintro e3 w3 ⟨rfl, q, rfl⟩
      go_wp2_with fail
      refine ⟨⟨rfl, vis ++ [e], r1 ++ r2, cnt2, ?_, below_drewN HBL2.out q⟩, HME.out⟩
      have h := HRG2.out
      rw [HMQ.out] at h ⊢
      exact h.kept ((Chg.refl (fun _ => False) _).drewN q) (fun x => x) (fun x => x)
set_option maxHeartbeats 1000000 in
set_option maxRecDepth 100000 in
theorem same_any (g1 g2 : Gh) (s1 s2 : St) (w : World) (h1 : DiskAt w g1 s1) (h2 : DiskAt w g2 s2) (hs : SameSt s1 s2) (hm : ∀ p ∈ s1.fs, p.1.size ≤ maxLen) :
    Calls Tryz.prog 25 #[.pointer (some ⟨g1.d, 0, none⟩), .pointer (some ⟨g2.d, 0, none⟩)] w fun e w' => e = .returned (.bool true) ∧ Chg (fun _ => False) w w' := by
  have k1 := h1.cells.2.2.2.2.2.2.1
  have k2 := h2.cells.2.2.2.2.2.2.1
  have hC : ∀ W, Chg (fun _ => False) w W → Calls Tryz.prog 49 #[.map g1.mb, .map g2.mb, .func (.func 50) #[] #[]] W fun e w' => e = .returned (.bool true) ∧ Below W.heap.size W w' := fun W hc =>
    eqf_any g1 g2 s1 s2 W (h1.new hc) (h2.new hc) hs hm
  have HC := Lib.hid hC
  clear h1 h2 hs hm hC
  go_enter Tryz.func25, Tryz.ntmps25
  go_wp2_with fail
  go_region_held3 (fun w' => w'.cell? ⟨g1.d, 6, none⟩ = some (.map g1.mb) ∧ w'.cell? ⟨g2.d, 6, none⟩ = some (.map g2.mb))
    (first | exact ⟨k1, k2⟩ | go_keep)
    (first
      | (go_at_call 49
         ((with_reducible refine (HC.out _ ?_).mono ?_))
         · repeat (first | exact Chg.refl _ _ | with_reducible refine Chg.drew ?_ | with_reducible refine Chg.drewN ?_ _)
         rintro e w5 ⟨rfl, hb5⟩
         have k1 := (Chg.of_below (S := fun _ => False) hb5).cell (p := ⟨g1.d, 6, none⟩) k1 (fun x => x)
         have k2 := (Chg.of_below (S := fun _ => False) hb5).cell (p := ⟨g2.d, 6, none⟩) k2 (fun x => x)
         have HB5 := Lib.hid hb5
         clear hb5))
  all_goals
    go_wp2_with fail
    go_ret
    exact ⟨rfl, (Chg.refl _ _).drew.trans (Chg.of_below HB5.out) (fun _ _ x => x)⟩
end Go.Proofs.YtemimmnamajooaaGreat
