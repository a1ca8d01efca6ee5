/- A part. -/
import Derived.Test.YtccfkhlcnpfkiaaGreatDoorTpl45
import Derived.Test.YtccfkhlcnpfkiaaGreatDoorTpl47
set_option linter.unusedVariables false
set_option linter.unusedSimpArgs false
namespace Go.Proofs.YtccfkhlcnpfkiaaGreatDoor
open Go.RowKit Go.Deep
theorem laid_costR {i0 : Nat} {all : List UInt8} (hok : all.length % 1024 ≤ 1021) (M : MsgM) : ∃ F S E, laidF (roomT i0 all) M = (F, S, E) ∧ F.size + S.size = costR (1024 * i0 + all.length) M := by
  have hr : roomT i0 all = 1024 - all.length % 1024 := by unfold roomT; omega
  have hr2 : roomT i0 all = 1024 - (1024 * i0 + all.length) % 1024 := by unfold roomT; rfl
  by_cases hkd : M.kind = 0
  · exact ⟨_, _, _, by unfold laidF; rw [if_pos hkd], by unfold costR; rw [if_neg (fun x => x.2 hkd)]; rfl⟩
  cases hp : putO M with
  | none =>
    refine ⟨_, _, _, by unfold laidF; rw [if_neg hkd, hp], ?_⟩
    unfold costR
    rw [if_neg]
    · rfl
    · rintro ⟨hx, -⟩
      unfold putO at hp
      rw [if_pos hx, if_pos hkd] at hp
      cases hp
  | some bs =>
    have hrt : rightB M = true := (put_get hp []).2.2.2.2
    obtain ⟨l3, l327⟩ := putO_len hkd hp
    refine ⟨_, _, _, by unfold laidF; rw [if_neg hkd, hp], ?_⟩
    rw [sizeL, sizeL]
    unfold costR
    rw [if_pos ⟨hrt, hkd⟩, hp, ← hr2]
    simp only [Option.getD_some]
    unfold tfill
    by_cases hf : roomT i0 all = bs.length ∨ bs.length + 3 ≤ roomT i0 all
    · rw [if_pos hf, if_pos (show bs.length = roomT i0 all ∨ bs.length + 3 ≤ roomT i0 all by rcases hf with x | x; exact .inl x.symm; exact .inr x)]
      simp
    · rw [if_neg hf, if_pos (show 3 ≤ roomT i0 all by omega), fillB_length _ (by omega), if_neg (show ¬ (bs.length = roomT i0 all ∨ bs.length + 3 ≤ roomT i0 all) from fun y => hf (by rcases y with x | x; exact .inl x.symm; exact .inr x))]
structure PlJ (w0 w : World) (d k tb rb : Nat) (t : TapeM) (g : Gh) (st : St) (m : RowM) (i0 j : Nat) (l : List (MsgM × List UInt8)) (B : ByteArray) (vI : Value) (ids : List Int) (vL : Value) (Ms : ML) : Prop where
  two : Two w0 w tb t g st m (4 * k) i0 j l rb B ((1024 * i0 : Nat) : Int) vI ids vL Ms
  bs : B.size = 1024 * i0 + (bytesI l).length
  his : His (1024 * i0) (notesI (1024 * i0) l) (recI l) ids Ms
  strs : ∀ p ∈ Ms, Strs w0 0 p.2 p.1.keys
  ok : (bytesI l).length % 1024 ≤ 1021
  len : 1024 * i0 + (bytesI l).length ≤ 1400 * k
  il : ids.length ≤ k
  ml : Ms.length ≤ k
  dd : g.d = d
theorem PlJ.new {w0 w w' : World} {d k tb rb : Nat} {t : TapeM} {g : Gh} {st : St} {m : RowM} {i0 j : Nat} {l : List (MsgM × List UInt8)} {B : ByteArray} {vI : Value} {ids : List Int} {vL : Value} {Ms : ML} (h : PlJ w0 w d k tb rb t g st m i0 j l B vI ids vL Ms) (hc : Chg (fun _ => False) w w') : PlJ w0 w' d k tb rb t g st m i0 j l B vI ids vL Ms := { h with two := h.two.new hc }
theorem PlJ.more {w0 w : World} {d k tb rb : Nat} {t : TapeM} {g : Gh} {st : St} {m : RowM} {i0 j : Nat} {l : List (MsgM × List UInt8)} {B : ByteArray} {vI : Value} {ids : List Int} {vL : Value} {Ms : ML} (h : PlJ w0 w d k tb rb t g st m i0 j l B vI ids vL Ms) : PlJ w0 w d (k + 1) tb rb t g st m i0 j l B vI ids vL Ms :=
  { h with two := { h.two with ti := h.two.ti.more (by omega) }, len := by have := h.len; omega, il := by have := h.il; omega, ml := by have := h.ml; omega }
theorem PlJ.tl {w0 w : World} {d k tb rb : Nat} {t : TapeM} {g : Gh} {st : St} {m : RowM} {i0 j : Nat} {l : List (MsgM × List UInt8)} {B : ByteArray} {vI : Value} {ids : List Int} {vL : Value} {Ms : ML} (h : PlJ w0 w d k tb rb t g st m i0 j l B vI ids vL Ms) : t.ids.length ≤ k ∧ t.M.length ≤ k := by
  obtain ⟨old, oM, nM, q1, q2, q3, q4, q5⟩ := h.his
  have h1 := h.il
  have h2 := h.two.ti.tn.ids
  have h3 := h.two.ti.tn.ml
  rw [q1, List.length_append, List.length_map] at h1
  rw [h2, List.length_map]
  omega
def PlE (w0 w : World) (d k tb rb : Nat) : Prop := ∃ t g st m i0 j l B vI ids vL Ms, PlJ w0 w d k tb rb t g st m i0 j l B vI ids vL Ms
structure PlMid (w0 w : World) (d k tb rb : Nat) (B : ByteArray) (M : MsgM) (t : TapeM) (g : Gh) (st : St) (m : RowM) (i0 j : Nat) (l : List (MsgM × List UInt8)) (vI : Value) (ids : List Int) (vL : Value) (Ms : ML) : Prop where
  two : Two w0 w tb t g st m (4 * (k + 1)) i0 j l rb B ((1024 * i0 : Nat) : Int) vI ids vL Ms
  bs : B.size + costR B.size M = 1024 * i0 + (bytesI l).length
  his : ∃ N R a b, His (1024 * i0) N R ids Ms ∧ notesI (1024 * i0) l = N ++ [(((B.size + fillR B.size M : Nat) : Int), a, b)] ∧ recI l = R ++ [M]
  strs : ∀ p ∈ Ms, Strs w0 0 p.2 p.1.keys
  ok : (bytesI l).length % 1024 ≤ 1021
  len : 1024 * i0 + (bytesI l).length ≤ 1400 * (k + 1)
  il : ids.length ≤ k
  ml : Ms.length ≤ k
  dd : g.d = d
  bz : B.size ≤ 1400 * k
  bm : B.size % 1024 ≤ 1021
  rt : rightB M = true
  kd : M.kind ≠ 0
theorem PlMid.new {w0 w w' : World} {d k tb rb : Nat} {B : ByteArray} {M : MsgM} {t : TapeM} {g : Gh} {st : St} {m : RowM} {i0 j : Nat} {l : List (MsgM × List UInt8)} {vI : Value} {ids : List Int} {vL : Value} {Ms : ML} (h : PlMid w0 w d k tb rb B M t g st m i0 j l vI ids vL Ms) (hc : Chg (fun _ => False) w w') : PlMid w0 w' d k tb rb B M t g st m i0 j l vI ids vL Ms := { h with two := h.two.new hc }
theorem PlMid.app {w0 w : World} {d k tb rb : Nat} {B : ByteArray} {M : MsgM} {t : TapeM} {g : Gh} {st : St} {m : RowM} {i0 j : Nat} {l : List (MsgM × List UInt8)} {vI : Value} {ids : List Int} {vL : Value} {Ms : ML} (h : PlMid w0 w d k tb rb B M t g st m i0 j l vI ids vL Ms) (hk : k ≤ 80) {vk : Value} (hks : Strs w0 0 vk M.keys) (hs : Sound M) :
    Calls Tryz.prog 13 #[.pointer (some ⟨rb, 0, none⟩), M.val vk] w fun e w' => e = .returned (.int .i64 ((B.size + fillR B.size M : Nat) : Int)) ∧ (∀ q, q < w.heap.size → ¬ RefS rb vI vL q → w'.heap[q]? = w.heap[q]?) ∧ PlE w0 w' d (k + 1) tb rb := by
  have hw : Below w0.heap.size w0 w := chg_below h.two.ti.tg.row.chg
  have hil := h.il
  have hml := h.ml
  have hbz := h.bz
  refine (rapp_any h.two.rf (by omega) (by omega) (by omega) M vk (hks.below hw (Nat.le_refl _)) hs h.rt h.kd h.bm).mono ?_
  rintro e w' ⟨B', vI', vL', rfl, hz, hr, ht⟩
  obtain ⟨N, R, a, b, h1, h2, h3⟩ := h.his
  refine ⟨rfl, fun q hq hn => ht.chg.block q hq hn, t, g, st, m, i0, j, l, B', vI', _, vL', _, h.two.refd hr ht, by rw [hz]; exact h.bs, ?_, fun p hp => ?_, h.ok, h.len, by simp; omega, by simp; omega, h.dd⟩
  · rw [h2, h3]
    exact h1.app _ _ _ _ _
  · rcases List.mem_append.1 hp with hp | hp
    · exact h.strs p hp
    · rw [List.mem_singleton] at hp
      subst hp
      exact hks
theorem PlJ.append {w0 w : World} {d k tb rb : Nat} {t : TapeM} {g : Gh} {st : St} {m : RowM} {i0 j : Nat} {l : List (MsgM × List UInt8)} {B : ByteArray} {vI : Value} {ids : List Int} {vL : Value} {Ms : ML} (h : PlJ w0 w d k tb rb t g st m i0 j l B vI ids vL Ms) (hk : k ≤ 80) {M : MsgM} {vk : Value} (hks : Strs w 0 vk M.keys) (hcap : CapOk vk) (hs : Sound M) :
    (costR B.size M = 0 ∧ Calls Tryz.prog 12 #[.pointer (some ⟨tb, 0, none⟩), M.val vk] w (Adds (.tuple #[.int .i64 0, .int .i64 1]) w)) ∨
    (0 < costR B.size M ∧ (st.cap : Int) - st.size < (costR B.size M : Int) ∧ Calls Tryz.prog 12 #[.pointer (some ⟨tb, 0, none⟩), M.val vk] w (Adds (.tuple #[.int .i64 0, .int .i64 7]) w)) ∨
    (0 < costR B.size M ∧ ¬ (st.cap : Int) - st.size < (costR B.size M : Int) ∧ Calls Tryz.prog 12 #[.pointer (some ⟨tb, 0, none⟩), M.val vk] w fun e w' => e = .returned (.tuple #[.int .i64 ((B.size + fillR B.size M : Nat) : Int), .int .i64 0]) ∧ (∀ q, q < w.heap.size → Off tb t g q → w'.heap[q]? = w.heap[q]?) ∧ ∃ t' g' st' m' j' l', PlMid w0 w' d k tb rb B M t' g' st' m' i0 j' l' vI ids vL Ms) := by
  have hti := h.two.ti
  have hlen := h.len
  have htl := h.tl
  have g1 := hti.rc.row.calm.good.size
  have hA := app_all hti.tg hti.rc hti.hd M vk hks hcap hs h.ok (by omega) (by omega) (by omega) (by omega)
  unfold AppAll at hA
  rw [← h.bs] at hA
  rcases hA with ⟨h0, hA⟩ | ⟨h0, h1, hA⟩ | ⟨h0, h1, F, S, f1, f2, f3, f4, f5, ⟨bs, p1, p2, p3, p4, p5, p6⟩, hA⟩
  · exact .inl ⟨h0, hA⟩
  · exact .inr (.inl ⟨h0, by omega, hA⟩)
  · refine .inr (.inr ⟨h0, by omega, hA.mono ?_⟩)
    rintro e w' ⟨rfl, hto⟩
    rw [h.bs] at hto
    obtain ⟨t', g', m', st', j', hT', hd', hsy, hsz', hcap', hchg, hfp, hrb, hids, hft⟩ := hti.app h.ok p3 p1 p5 p2 hto
    have htw := h.two.call hT' hchg (fun x hx => hx) (fun x hx => by
      rcases hx with y | y | y
      · rcases hft x y with z | z
        · exact .inl (.inl z)
        · exact .inr z
      · exact .inl (.inr (.inl (by rw [y, hrb])))
      · rcases hfp x y with z | z
        · exact .inl (.inr (.inr z))
        · exact .inr z)
    obtain ⟨l3, l327⟩ := putO_len p3 p1
    have hit := itemsA_laid (i0 := i0) (all := bytesI l) p1 l327 h.ok
    have hib := itemsA_bytes (roomT i0 (bytesI l)) M bs
    have hFs : F.size = (tfill (roomT i0 (bytesI l)) bs.length).length := by rw [p5, sizeL]
    have hSs : S.size = bs.length := by rw [p2, sizeL]
    have hlen2 : (bytesI (l ++ itemsA (roomT i0 (bytesI l)) M bs)).length = (bytesI l).length + F.size + S.size := by
      rw [bytesI_app, List.length_append, hib, List.length_append, hFs, hSs]
      omega
    have hkb : (M.kind == 0) = false := by simpa using p3
    refine ⟨by rw [p6], fun q hq ho => hchg.block q hq (fun hx => ?_), t', g', st', m', j', _, htw, by rw [hlen2]; have := h.bs; omega, ⟨notesI (1024 * i0) l, recI l, (bs.length : Int), M.born, h.his, ?_, ?_⟩, h.strs, by rw [hlen2]; exact f5, by rw [hlen2]; omega, h.il, h.ml, hd'.trans h.dd, by rw [h.bs]; exact h.len, by rw [h.bs]; have := h.ok; omega, p4, p3⟩
    · rcases hx with x | x | x
      · exact ho.1 x
      · exact ho.2.1 x
      · exact ho.2.2 x
    · rw [notesI_app, hit.2, hkb, ← p6, h.bs, hFs]
      simp
    · rw [recI_app]
      unfold itemsA recI
      split <;> simp [p3, fillM]
theorem Two.tg {w0 w w' : World} {tb : Nat} {t : TapeM} {g g' : Gh} {st st' : St} {m m' : RowM} {n i0 j : Nat} {l : List (MsgM × List UInt8)} {rb : Nat} {B : ByteArray} {begin : Int} {vI vL : Value} {ids : List Int} {Ms : ML} (h : Two w0 w tb t g st m n i0 j l rb B begin vI ids vL Ms)
    (r1 : TapeG w0 w' tb t g' st' m') (r5 : RowC n m' st' 1024 i0 j (bytesI l)) (r3 : m'.head = m.head) (r7 : Chg (fun q => q = t.rb ∨ q ∈ g.fp) w w') (r8 : ∀ q ∈ g'.fp, (q = t.rb ∨ q ∈ g.fp) ∨ w.heap.size ≤ q) : Two w0 w' tb t g' st' m' n i0 j l rb B begin vI ids vL Ms :=
  h.call ⟨r1, r5, r3.trans h.ti.hd, h.ti.la, h.ti.tn⟩ r7 (fun x hx => .inr hx) (fun x hx => by
    rcases hx with y | y | y
    · exact .inl (.inl y)
    · exact .inl (.inr (.inl y))
    · rcases r8 x y with z | z
      · exact .inl (.inr z)
      · exact .inr z)
theorem PlJ.sync {w0 w : World} {d k tb rb : Nat} {t : TapeM} {g : Gh} {st : St} {m : RowM} {i0 j : Nat} {l : List (MsgM × List UInt8)} {B : ByteArray} {vI : Value} {ids : List Int} {vL : Value} {Ms : ML} (h : PlJ w0 w d k tb rb t g st m i0 j l B vI ids vL Ms) (hk : k ≤ 80) :
    Calls Tryz.prog 14 #[.pointer (some ⟨tb, 0, none⟩)] w fun e w' => e = .returned (.int .i64 0) ∧ (∀ q, q < w.heap.size → Off tb t g q → w'.heap[q]? = w.heap[q]?) ∧ ∃ g' st' m', PlJ w0 w' d k tb rb t g' st' m' i0 j l B vI ids vL Ms ∧ m'.synced = (B.size : Int) := by
  refine (tsync_any h.two.ti.tg h.two.ti.rc (by omega)).mono ?_
  rintro e w' ⟨rfl, g', m', st', r1, r2, r3, r4, r5, r6, r7, r8, r9⟩
  exact ⟨rfl, fun q hq ho => r7.block q hq (fun x => x.elim ho.2.1 ho.2.2), g', st', m', { h with two := h.two.tg r1 r5 r3 r7 r8, dd := r2.trans h.dd }, by rw [r4, h.bs]⟩
structure PlDr (w0 w : World) (d k tb rb : Nat) (t : TapeM) (g : Gh) (st : St) (m : RowM) (i0 j : Nat) (l : List (MsgM × List UInt8)) (B : ByteArray) (vI : Value) (ids : List Int) (vL : Value) (Ms : ML) : Prop where
  two : Two w0 w tb t g st m (4 * k) (i0 + 1) j l rb B ((1024 * i0 : Nat) : Int) vI ids vL Ms
  bs : B.size = 1024 * (i0 + 1) + (bytesI l).length
  his : His (1024 * (i0 + 1)) (notesI (1024 * (i0 + 1)) l) (recI l) ids Ms
  strs : ∀ p ∈ Ms, Strs w0 0 p.2 p.1.keys
  ok : (bytesI l).length % 1024 ≤ 1021
  len : 1024 * (i0 + 1) + (bytesI l).length ≤ 1400 * k
  il : ids.length ≤ k
  ml : Ms.length ≤ k
  dd : g.d = d
  more : 1024 * i0 + 1024 < B.size
theorem PlDr.new {w0 w w' : World} {d k tb rb : Nat} {t : TapeM} {g : Gh} {st : St} {m : RowM} {i0 j : Nat} {l : List (MsgM × List UInt8)} {B : ByteArray} {vI : Value} {ids : List Int} {vL : Value} {Ms : ML} (h : PlDr w0 w d k tb rb t g st m i0 j l B vI ids vL Ms) (hc : Chg (fun _ => False) w w') : PlDr w0 w' d k tb rb t g st m i0 j l B vI ids vL Ms := { h with two := h.two.new hc }
theorem PlDr.rdrop {w0 w : World} {d k tb rb : Nat} {t : TapeM} {g : Gh} {st : St} {m : RowM} {i0 j : Nat} {l : List (MsgM × List UInt8)} {B : ByteArray} {vI : Value} {ids : List Int} {vL : Value} {Ms : ML} (h : PlDr w0 w d k tb rb t g st m i0 j l B vI ids vL Ms) (hk : k ≤ 80) :
    Calls Tryz.prog 18 #[.pointer (some ⟨rb, 0, none⟩)] w fun e w' => e = .returned (.bool true) ∧ (∀ q, q < w.heap.size → q ≠ rb → w'.heap[q]? = w.heap[q]?) ∧ PlJ w0 w' d k tb rb t g st m (i0 + 1) j l B vI ids vL Ms := by
  have h1 := h.len
  refine (rdrop_ok h.two.rf (by omega) h.more).mono ?_
  rintro e w' ⟨rfl, hr, hc⟩
  refine ⟨rfl, fun q hq hx => hc.block q hq hx, ?_, h.bs, h.his, h.strs, h.ok, h.len, h.il, h.ml, h.dd⟩
  have e1 : 1024 * (i0 + 1) = 1024 * i0 + 1024 := by omega
  rw [← e1] at hr
  exact h.two.refd hr ⟨hc.wide (fun q _ hq => .inl hq), fun q hq => .inl hq⟩
theorem PlJ.many {w0 w : World} {d k tb rb : Nat} {t : TapeM} {g : Gh} {st : St} {m : RowM} {i0 j : Nat} {l : List (MsgM × List UInt8)} {B : ByteArray} {vI : Value} {ids : List Int} {vL : Value} {Ms : ML} (h : PlJ w0 w d k tb rb t g st m i0 j l B vI ids vL Ms) : i0 + 1 < j ↔ 1024 * i0 + 1024 < B.size := by
  have e1 := h.two.ti.rc.row.e1
  have e2 := h.two.ti.rc.row.e2
  have ht := h.two.ti.rc.tight
  have hb := h.bs
  constructor
  · intro hx
    have := ht hx
    omega
  · intro hx
    omega
theorem PlJ.drop {w0 w : World} {d k tb rb : Nat} {t : TapeM} {g : Gh} {st : St} {m : RowM} {i0 j : Nat} {l : List (MsgM × List UInt8)} {B : ByteArray} {vI : Value} {ids : List Int} {vL : Value} {Ms : ML} (h : PlJ w0 w d k tb rb t g st m i0 j l B vI ids vL Ms) (hk : k ≤ 80) :
    (1024 * i0 + 1024 < B.size ∧ Calls Tryz.prog 17 #[.pointer (some ⟨tb, 0, none⟩)] w fun e w' => e = .returned (.tuple #[.int .i64 ((1024 * (i0 + 1) : Nat) : Int), .int .i64 0]) ∧ (∀ q, q < w.heap.size → Off tb t g q → w'.heap[q]? = w.heap[q]?) ∧ ∃ t' g' st' m' l', PlDr w0 w' d k tb rb t' g' st' m' i0 j l' B vI ids vL Ms) ∨
    (B.size ≤ 1024 * i0 + 1024 ∧ Calls Tryz.prog 17 #[.pointer (some ⟨tb, 0, none⟩)] w fun e w' => e = .returned (.tuple #[.int .i64 0, .int .i64 9]) ∧ (∀ q, q < w.heap.size → Off tb t g q → w'.heap[q]? = w.heap[q]?) ∧ ∃ g' st' m', PlJ w0 w' d k tb rb t g' st' m' i0 j l B vI ids vL Ms) := by
  have hti := h.two.ti
  have htl := h.tl
  by_cases hij : i0 + 1 < j
  · refine .inl ⟨h.many.1 hij, ?_⟩
    have hwf : ∀ k ∈ t.ids, (Lit.int .i64 k).wf = true := fun x hx => by
      rw [hti.tn.ids] at hx
      obtain ⟨y, hy, rfl⟩ := List.mem_map.1 hx
      have h1 := notesI_ge y hy
      have h2 := notesI_lt hti.la' y hy
      have h3 := h.len
      obtain ⟨q, hq⟩ : ∃ q : Nat, y.1 = (q : Int) := ⟨y.1.toNat, by omega⟩
      rw [hq]
      exact twf_nat q (by omega)
    refine (tdrop_any hti.tg hti.rc (by omega) hij (le_of_lt' hti.sorted) (by omega) hwf).mono ?_
    intro e w' hto
    obtain ⟨l1, l2, t', g', m', st', e1, e2, rfl, hT', hd', hsy, hcap', hchg, hfp, hrb, hft⟩ := hti.drop hij hto
    have hl : (bytesI l).length = 1024 + (bytesI l2).length := by rw [e1, bytesI_app, List.length_append, e2]
    refine ⟨rfl, fun q hq ho => hchg.block q hq (fun x => by
      rcases x with x | x | x
      · exact ho.2.1 x
      · exact ho.2.2 x
      · exact ho.1 x), t', g', st', m', l2, ?_, by rw [h.bs, hl]; omega, ?_, h.strs, by have := h.ok; omega, by have := h.len; omega, h.il, h.ml, hd'.trans h.dd, h.many.1 hij⟩
    · exact h.two.call (S := fun q => q = t.rb ∨ q ∈ g.fp ∨ q ∈ t.foot tb) hT' hchg (fun x hx => by
        rcases hx with y | y | y
        · exact .inr (.inl y)
        · exact .inr (.inr y)
        · exact .inl y) (fun x hx => by
        rcases hx with y | y | y
        · exact .inl (.inl (by rw [← hft]; exact y))
        · exact .inl (.inr (.inl (by rw [y, hrb])))
        · rcases hfp x y with z | z
          · exact .inl (.inr (.inr z))
          · exact .inr z)
    · have hh := h.his
      have hla := hti.la'
      rw [e1] at hh hla
      exact hh.drop e2 hla
  · refine .inr ⟨by have := h.many; omega, ?_⟩
    refine (tdrop_few hti.tg hti.rc (by omega)).mono ?_
    rintro e w' ⟨rfl, g', m', st', r1, r2, r3, r4, r5, r6, r7, r8, r9⟩
    exact ⟨rfl, fun q hq ho => r7.block q hq (fun x => x.elim ho.2.1 ho.2.2), g', st', m', { h with two := h.two.tg r1 r5 r3 r7 r8, dd := r2.trans h.dd }⟩
theorem PlJ.open_ {w0 w : World} {d k tb rb : Nat} {t : TapeM} {g : Gh} {st : St} {m : RowM} {i0 j : Nat} {l : List (MsgM × List UInt8)} {B : ByteArray} {vI : Value} {ids : List Int} {vL : Value} {Ms : ML} (h : PlJ w0 w d k tb rb t g st m i0 j l B vI ids vL Ms) (hk : k ≤ 80) (ht : Tab10 w0) :
    Calls Tryz.prog 8 #[.pointer (some ⟨d, 0, none⟩)] w fun e w' => ∃ tb', e = .returned (.tuple #[.pointer (some ⟨tb', 0, none⟩), .int .i64 0]) ∧ (∀ q, q < w.heap.size → Off tb t g q → w'.heap[q]? = w.heap[q]?) ∧ ∃ t' g' st' m' j', PlJ w0 w' d k tb' rb t' g' st' m' i0 j' l B vI ids vL Ms ∧ m'.synced = (B.size : Int) := by
  have hti := h.two.ti
  have hlen := h.len
  refine (topen_laid (DiskG.of hti.tg.row h.dd) ht hti.rc (by omega) hti.hd hti.la (by omega) (by omega)).mono ?_
  rintro e w' ⟨tb2, t2, g4, m4, st4, j4, rfl, x1, x2, x3, x4, x5, x6, x7, x8, x9, x10, x11, x12⟩
  refine ⟨tb2, rfl, fun q hq ho => x8.block q hq (fun x => ho.2.2 x), t2, g4, st4, m4, j4, { h with two := ?_, dd := x3.trans h.dd }, by rw [x4, h.bs]⟩
  exact h.two.call x2 x8 (fun x hx => .inr (.inr hx)) (fun x hx => by
    rcases hx with y | y | y
    · exact .inr (x10 x y)
    · exact .inr (by rw [y]; exact x11)
    · rcases x12 x y with z | z
      · exact .inl (.inr (.inr z))
      · exact .inr z)
theorem PlJ.read {w0 w : World} {d k tb rb : Nat} {t : TapeM} {g : Gh} {st : St} {m : RowM} {i0 j : Nat} {l : List (MsgM × List UInt8)} {B : ByteArray} {vI : Value} {ids : List Int} {vL : Value} {Ms : ML} (h : PlJ w0 w d k tb rb t g st m i0 j l B vI ids vL Ms) (hk : k ≤ 80) (N : Int) (hN : (Lit.int .i64 N).wf = true) :
    (0 ≤ N ∧ N < ((1024 * i0 : Nat) : Int) ∧ Calls Tryz.prog 19 #[.pointer (some ⟨tb, 0, none⟩), .int .i64 N] w (ReadTo zeroM 14 w)) ∨
    (¬ (0 ≤ N ∧ N < ((1024 * i0 : Nat) : Int)) ∧ findR ids ((1024 * i0 : Nat) : Int) N = -1 ∧ Calls Tryz.prog 19 #[.pointer (some ⟨tb, 0, none⟩), .int .i64 N] w (ReadTo zeroM 9 w) ∧ ∀ W, Chg (fun _ => False) w W → Calls Tryz.prog 21 #[.pointer (some ⟨tb, 0, none⟩), .int .i64 N] W fun e w' => e = .returned (.int .i64 0) ∧ W = w') ∨
    (¬ (0 ≤ N ∧ N < ((1024 * i0 : Nat) : Int)) ∧ ∃ (K : Nat) (M : MsgM) (vk : Value) (bs : List UInt8), findR ids ((1024 * i0 : Nat) : Int) N = (K : Int) ∧ Ms[K]? = some (M, vk) ∧ M.keys.length ≤ 10000 ∧ putO M = some bs ∧ rightB M = true ∧ Calls Tryz.prog 19 #[.pointer (some ⟨tb, 0, none⟩), .int .i64 N] w (ReadTo M 0 w) ∧ ∀ W, Chg (fun _ => False) w W → Calls Tryz.prog 21 #[.pointer (some ⟨tb, 0, none⟩), .int .i64 N] W fun e w' => e = .returned (.int .i64 (bs.length : Int)) ∧ W = w') := by
  have hti := h.two.ti
  have hlen := h.len
  have hbeg := hti.rc.row.beg
  by_cases hlo : 0 ≤ N ∧ N < ((1024 * i0 : Nat) : Int)
  · exact .inl ⟨hlo.1, hlo.2, tread_trim hti.tg N hlo.1 (by rw [hbeg]; exact hlo.2)⟩
  by_cases hin : ∃ x ∈ notesI (1024 * i0) l, x.1 = N
  · refine .inr (.inr ⟨hlo, ?_⟩)
    obtain ⟨x, hx, rfl⟩ := hin
    obtain ⟨q, hql, hqe⟩ := List.getElem_of_mem hx
    have hq : t.ids[q]? = some x.1 := by rw [hti.tn.ids, List.getElem?_map, List.getElem?_eq_getElem hql, hqe]; rfl
    obtain ⟨M, vk, K, hn⟩ := nthR (w := w) hti h.his (by omega) hq
    obtain ⟨q1, M', bs, q2, e1, e2, e3, e4⟩ := notesI_nth hql
    obtain ⟨b, hb⟩ := hn.note
    have hxe : x = (((1024 * i0 + (bytesI q1).length : Nat) : Int), (bs.length : Int), M'.born) := by
      rw [List.getElem?_eq_getElem hql, hqe] at e3
      exact Option.some.inj e3
    obtain ⟨K', M2, vk2, f1, f2, f3⟩ := h.his.find hti.la' (k := q) (id := x.1) (by rw [← hti.tn.ids]; exact hq)
    have hM2 : M2 = M' := by rw [f2] at e4; exact Option.some.inj e4
    have hKK : K = K' := by have := hn.find.symm.trans f1; omega
    have hMM : M = M' := by
      have := hn.recd
      rw [hKK, f3] at this
      have := (Prod.mk.inj (Option.some.inj this)).1
      rw [← this, hM2]
    have hla := hti.la
    rw [e1] at hla
    have hpo : putO M' = some bs := ((laidAt_app.1 hla).2.1).1
    rw [← hMM] at hpo
    refine ⟨K, M, vk, bs, hn.find, hn.recd, hn.few, hpo, (put_get hpo []).2.2.2.2, hn.read w (Chg.refl _ _), fun W hW => ?_⟩
    have := tsize_any (hti.new hW).tg.tape x.1 hN
    rw [hti.tn.siz x hx, hxe] at this
    rw [hxe]
    exact this
  · have hno : ∀ x ∈ notesI (1024 * i0) l, x.1 ≠ N := fun x hx he => hin ⟨x, hx, he⟩
    have hg := hti.tn.non N hno
    refine .inr (.inl ⟨hlo, h.his.none hno, tread_none hti.tg N hN (by rw [hbeg]; exact hlo) (by rw [hg]; rfl), fun W hW => ?_⟩)
    have := tsize_any (hti.new hW).tg.tape N hN
    rw [hg] at this
    exact this
attribute [local go_sem] fr_opt
def BoxO (w : World) (b : Nat) (cs : Array Value) : Prop := w.heap[b]? = some (.cells cs 40 (0, 0))
theorem BoxO.cell {w : World} {b : Nat} {cs : Array Value} (h : BoxO w b cs) (i : Nat) : w.cell? ⟨b, i, none⟩ = cs[i]? := by
  unfold BoxO at h
  unfold World.cell?
  simp only [h]
  simp
theorem PlJ.off {w0 w : World} {d k tb rb : Nat} {t : TapeM} {g : Gh} {st : St} {m : RowM} {i0 j : Nat} {l : List (MsgM × List UInt8)} {B : ByteArray} {vI : Value} {ids : List Int} {vL : Value} {Ms : ML} (h : PlJ w0 w d k tb rb t g st m i0 j l B vI ids vL Ms) {q : Nat} (hq : w.heap.size ≤ q) : Off tb t g q ∧ ¬ RefS rb vI vL q := by
  refine ⟨⟨fun hx => ?_, fun hx => ?_, fun hx => ?_⟩, fun hx => ?_⟩
  · have := h.two.ti.tg.tape.lt q hx; omega
  · have := h.two.ti.tg.row.row.lt; omega
  · have := h.two.ti.tg.row.disk.lt q hx; omega
  · have := h.two.rf.lt hx; omega
set_option maxHeartbeats 16000000 in
set_option maxRecDepth 100000 in
theorem walkF_TapePlays (c : Int) (v : Value) (os : List OpT) (w : World) (ht : Tab10 w) (hcw : (Lit.int .i64 c).wf = true) (hv : OpsT w v os) (hl : os.length ≤ maxLen) (hs : ∀ x ∈ os, x.ok w) :
    Calls Tryz.prog 3 #[.int .i64 c, v] w fun e w' => e = .returned (.bool true) ∧ Below w.heap.size w w' := by
  unfold maxLen at hl
  have HTB := Lib.hid ht
  have HV := Lib.hid hv
  have HS := Lib.hid hs
  obtain ⟨a, cap, rfl⟩ := hv.form
  obtain ⟨n, hn⟩ : ∃ n, n = os.length := ⟨_, rfl⟩
  have HN := Lib.hid hn
  rw [← hn] at HV hl ⊢
  clear ht hv hs hn
  go_enter Tryz.func3, Tryz.ntmps3
  go_wp2_with fail
  refine (tawake_any w HTB.out).mono ?_
  rintro e w1 ⟨rfl, hc1⟩
  have HC1 := Lib.hid hc1
  clear hc1
  go_wp2_with fail
  refine (greatT_any _ os w1 (HV.out.keep HC1.out) (by rw [← HN.out]; unfold maxLen; omega) (fun x hx => ⟨(HS.out x hx).1, (HS.out x hx).2.1.below (chg_below HC1.out), (HS.out x hx).2.2⟩)).mono ?_
  rintro e w2 ⟨z, rfl, hf, hb2⟩
  have HC2 := Lib.hid (HC1.out.trans (below_chg hb2) (fun _ _ e => e))
  have HF := Lib.hid hf
  clear hb2 hf
  cases z
  case true =>
    go_wp2_with fail
    go_ret
    exact ⟨rfl, chg_below HC2.out⟩
  have HFA := Lib.hid (HF.out rfl)
  clear HF
  have hn80 : n ≤ 80 := by have := HFA.out.1; have := HN.out; omega
  have HN2 := Lib.hid (new_any c w2)
  go_wp2_with fail
  refine HN2.out.mono ?_
  rintro e w3 ⟨rfl, hd0, hb0⟩
  obtain ⟨g, hg⟩ : ∃ g : Gh, g = ⟨w2.heap.size, none, []⟩ := ⟨_, rfl⟩
  have hdg : DiskG w w3 w2.heap.size g (newSt c) := ⟨by rw [hg]; exact hd0, by rw [hg], HC2.out.trans (below_chg hb0) (fun _ _ e => e), fun k hk => by rw [hg] at hk; simp [Gh.fp] at hk; have := HC2.out.size; omega⟩
  have hgd : g.d = w2.heap.size := by rw [hg]
  have HO := Lib.hid (topen_laid (l := []) hdg HTB.out (newC tH 1024 c (by decide) (by decide) (by decide)) (by omega) rfl trivial (by decide) (by decide))
  obtain ⟨db, hdb⟩ : ∃ db, db = w2.heap.size := ⟨_, rfl⟩
  rw [← hdb] at hgd HO ⊢
  have HGD := Lib.hid hgd
  clear hd0 hb0 hg hdg hgd hdb
  go_wp2_with fail
  refine HO.out.mono ?_
  rintro e w4 ⟨tb0, t0, g2, m2, st2, j2, rfl, x1, x2, x3, x4, x5, x6, x7, x8, x9, x10, x11, x12⟩
  obtain ⟨W5, hW5⟩ : ∃ W, W = w4.alloc (.cells #[.string ⟨#[]⟩, .int .i64 0, .slice none 0 0, .slice none 0 0] 35) := ⟨_, rfl⟩
  obtain ⟨rb, hrb⟩ : ∃ rb, rb = w4.heap.size := ⟨_, rfl⟩
  have hc5 : Chg (fun _ => False) w4 W5 := by rw [hW5]; exact Chg.alloc _ (Chg.refl _ _) _
  have HJ0 : Hid (PlE w W5 db 0 tb0 rb) := Lib.hid (by
    have hal := x2.new hc5
    refine ⟨t0, g2, st2, m2, 0, j2, [], ⟨#[]⟩, .slice none 0 0, [], .slice none 0 0, [], ⟨hal, ⟨?_, ownI_nil _ _, MRow.nil _, fun k hk => by cases hk⟩, fun q hq => ?_⟩, rfl, ⟨[], [], [], rfl, rfl, rfl, fun x hx => (by cases hx), rfl⟩, fun p hp => (by cases hp), by decide, by decide, Nat.le_refl _, Nat.le_refl _, x3.trans HGD.out⟩
    · rw [hW5, hrb]; exact heap_alloc_new w4 _
    · rcases hq with rfl | hq | hq
      · have hs4 : w.heap.size ≤ w4.heap.size := x2.tg.row.chg.size
        refine ⟨⟨fun hx => ?_, fun hx => ?_, fun hx => ?_⟩, by omega⟩
        · have := x2.tg.tape.lt _ hx; omega
        · have := x2.tg.row.row.lt; omega
        · have := x2.tg.row.disk.lt _ hx; omega
      · cases hq
      · cases hq)
  have HW5 := Lib.hid hW5
  have HRB := Lib.hid hrb
  clear x1 x2 x3 x4 x5 x6 x7 x8 x9 x10 x11 x12 hW5 hrb hc5 HO HN2 HGD
  go_upto_region 10 with fail
  rw [← HW5.out, ← HRB.out]
  go_wp2_with fail
  go_loopw [6, 43] (fun tv vi wr => ∃ (k tb : Nat), k ≤ n ∧ vi = .int .i64 k ∧ tv = .pointer (some ⟨tb, 0, none⟩) ∧ PlE w wr db k tb rb) (fun _ vi _ => n - (intOf vi).toNat)
  case atStart => exact ⟨0, tb0, Nat.zero_le _, rfl, rfl, HJ0.out⟩
  case round =>
    clear HJ0 HW5 HRB
    obtain ⟨k, tb, hk, rfl, rfl, t, g, st, m, i0, j, l, B, vI, ids, vL, Ms, hI⟩ := hrel
    have HI := Lib.hid hI
    clear hI
    by_cases hlt : k < n
    · obtain ⟨x, hx⟩ : ∃ x, os[k]? = some x := ⟨_, List.getElem?_eq_getElem (by rw [← HN.out]; exact hlt)⟩
      have hxm := List.mem_of_getElem? hx
      obtain ⟨xk, xn, ⟨⟨m1, m2, m3, m4, m5, m6, m7, m8, m9, m10⟩, va⟩⟩ := x
      have hok := HS.out _ hxm
      have hfn := HFA.out.2 _ hxm
      have hcw := HI.out.two.ti.tg.row.chg
      obtain ⟨a', cap', e', hh⟩ := HV.out.keep hcw
      rcases hh with hh | ⟨b, o, rfl, hlow, hcell⟩
      · rw [hh] at hx; cases hx
      have key := hcell k _ hx
      obtain ⟨ka, kc, hva⟩ := hok.2.1.strs.form
      dsimp only at hva
      obtain ⟨kl, hkl⟩ : ∃ l, l = m10.length := ⟨_, rfl⟩
      rw [← hkl] at hva
      subst hva
      obtain ⟨hea, hec⟩ : a = some ⟨b, o, none⟩ ∧ cap = cap' := by injection e' with e1 e2 e3; exact ⟨e1, e3⟩
      subst hea
      clear e' hec hcell
      have f0 : wr.cell? ⟨b, o + k * 12, none⟩ = some (.int .i64 xk) := by first | (simp [OpT.cells, MsgM.cells]; done) | simpa [OpT.cells, MsgM.cells] using key 0 (by decide)
      have f1 : wr.cell? ⟨b, o + k * 12 + 1, none⟩ = some (.int .i64 xn) := by first | (simp [OpT.cells, MsgM.cells]; done) | simpa [OpT.cells, MsgM.cells] using key 1 (by decide)
      have f2 : wr.cell? ⟨b, o + k * 12 + 1 + 1, none⟩ = some (.int .i64 m1) := by first | (simp [OpT.cells, MsgM.cells]; done) | simpa [OpT.cells, MsgM.cells] using key 2 (by decide)
      have f3 : wr.cell? ⟨b, o + k * 12 + 1 + 1 + 1, none⟩ = some (.int .i64 m2) := by first | (simp [OpT.cells, MsgM.cells]; done) | simpa [OpT.cells, MsgM.cells] using key 3 (by decide)
      have f4 : wr.cell? ⟨b, o + k * 12 + 1 + 1 + 1 + 1, none⟩ = some (.int .i64 m3) := by first | (simp [OpT.cells, MsgM.cells]; done) | simpa [OpT.cells, MsgM.cells] using key 4 (by decide)
      have f5 : wr.cell? ⟨b, o + k * 12 + 1 + 1 + 1 + 1 + 1, none⟩ = some (.int .i64 m4) := by first | (simp [OpT.cells, MsgM.cells]; done) | simpa [OpT.cells, MsgM.cells] using key 5 (by decide)
      have f6 : wr.cell? ⟨b, o + k * 12 + 1 + 1 + 1 + 1 + 1 + 1, none⟩ = some (.int .i64 m5) := by first | (simp [OpT.cells, MsgM.cells]; done) | simpa [OpT.cells, MsgM.cells] using key 6 (by decide)
      have f7 : wr.cell? ⟨b, o + k * 12 + 1 + 1 + 1 + 1 + 1 + 1 + 1, none⟩ = some (.int .i64 m6) := by first | (simp [OpT.cells, MsgM.cells]; done) | simpa [OpT.cells, MsgM.cells] using key 7 (by decide)
      have f8 : wr.cell? ⟨b, o + k * 12 + 1 + 1 + 1 + 1 + 1 + 1 + 1 + 1, none⟩ = some (.string m7) := by first | (simp [OpT.cells, MsgM.cells]; done) | simpa [OpT.cells, MsgM.cells] using key 8 (by decide)
      have f9 : wr.cell? ⟨b, o + k * 12 + 1 + 1 + 1 + 1 + 1 + 1 + 1 + 1 + 1, none⟩ = some (.string m8) := by first | (simp [OpT.cells, MsgM.cells]; done) | simpa [OpT.cells, MsgM.cells] using key 9 (by decide)
      have f10 : wr.cell? ⟨b, o + k * 12 + 1 + 1 + 1 + 1 + 1 + 1 + 1 + 1 + 1 + 1, none⟩ = some (.string m9) := by first | (simp [OpT.cells, MsgM.cells]; done) | simpa [OpT.cells, MsgM.cells] using key 10 (by decide)
      have f11 : wr.cell? ⟨b, o + k * 12 + 1 + 1 + 1 + 1 + 1 + 1 + 1 + 1 + 1 + 1 + 1, none⟩ = some (.slice ka kl kc) := by first | (simp [OpT.cells, MsgM.cells]; done) | simpa [OpT.cells, MsgM.cells] using key 11 (by decide)
      obtain ⟨W1, hW1⟩ : ∃ W, W = wr.alloc (.cells #[.int .i64 xk, .int .i64 xn, .int .i64 m1, .int .i64 m2, .int .i64 m3, .int .i64 m4, .int .i64 m5, .int .i64 m6, .string m7, .string m8, .string m9, .slice ka kl kc] 40) := ⟨_, rfl⟩
      obtain ⟨BX, hBX⟩ : ∃ b, b = wr.heap.size := ⟨_, rfl⟩
      have hc1 : Chg (fun _ => False) wr W1 := by rw [hW1]; exact Chg.alloc _ (Chg.refl _ _) _
      have HO1 : Hid (BoxO W1 BX #[.int .i64 xk, .int .i64 xn, .int .i64 m1, .int .i64 m2, .int .i64 m3, .int .i64 m4, .int .i64 m5, .int .i64 m6, .string m7, .string m8, .string m9, .slice ka kl kc]) := Lib.hid (by rw [hW1, hBX]; exact heap_alloc_new wr _)
      have HI1 := Lib.hid (HI.out.new hc1)
      have HOF := Lib.hid (HI.out.off (q := BX) (by omega))
      have HXN : Hid ((Lit.int .i64 xn).wf = true) := Lib.hid hok.1
      have HFN : Hid (Sound (⟨m1, m2, m3, m4, m5, m6, m7, m8, m9, m10⟩ : MsgM)) := Lib.hid hfn.sound
      have HCP : Hid (CapOk (.slice ka kl kc)) := Lib.hid hok.2.2
      have HSW : Hid (Strs w 0 (.slice ka kl kc) m10) := Lib.hid hok.2.1.strs
      have HW1 := Lib.hid hW1
      have HBX := Lib.hid hBX
      have hk80 : k ≤ 80 := by omega
      clear hx hxm hok hfn hcw hlow key hkl hW1 hBX hc1
      go_upto_block 2 with fail
      rw [← HW1.out, ← HBX.out]
      clear f0 f1 f2 f3 f4 f5 f6 f7 f8 f9 f10 f11 HW1
      go_cut [6, 11, 12, 13, 14, 15, 16, 17, 18, 19, 20, 21, 22] (fun tv _ _ _ _ _ _ _ _ _ _ _ _ wx => ∃ tb2 : Nat, tv = .pointer (some ⟨tb2, 0, none⟩) ∧ PlE w wx db (k + 1) tb2 rb ∧ BoxO wx BX #[.int .i64 xk, .int .i64 xn, .int .i64 m1, .int .i64 m2, .int .i64 m3, .int .i64 m4, .int .i64 m5, .int .i64 m6, .string m7, .string m8, .string m9, .slice ka kl kc])
      case first =>
        have hkx := HO1.out.cell
        by_cases e0 : xk = 0
        · as_aux_lemma =>
            subst e0
            obtain ⟨cC, hcC⟩ : ∃ x, x = costR B.size (⟨m1, m2, m3, m4, m5, m6, m7, m8, m9, m10⟩ : MsgM) := ⟨_, rfl⟩
            have hBz : B.size ≤ 112000 := by have h1 := HI1.out.len; have h2 := HI1.out.bs; omega
            have HCS : Hid (∀ W, Chg (fun _ => False) W1 W → Strs W 0 (.slice ka kl kc) m10) := Lib.hid (fun W hW => HSW.out.below (chg_below (HI1.out.two.ti.tg.row.chg.trans hW (fun _ _ e => e))) (Nat.le_refl _))
            have HRC : Hid (∀ W, Chg (fun _ => False) W1 W → Calls Tryz.prog 9 #[.pointer (some ⟨rb, 0, none⟩), .agg #[.int .i64 m1, .int .i64 m2, .int .i64 m3, .int .i64 m4, .int .i64 m5, .int .i64 m6, .string m7, .string m8, .string m9, .slice ka kl kc]] W fun e w' => e = .returned (.int .i64 (cC : Int)) ∧ Below W.heap.size W w') := Lib.hid (fun W hW => by
              rw [hcC]
              exact rcost_any (HI1.out.new hW).two.rf.ref (by omega) (⟨m1, m2, m3, m4, m5, m6, m7, m8, m9, m10⟩ : MsgM) (.slice ka kl kc) (HCS.out W hW) HFN.out)
            have HTC : Hid (∀ W, Chg (fun _ => False) W1 W → Calls Tryz.prog 10 #[.pointer (some ⟨tb, 0, none⟩), .agg #[.int .i64 m1, .int .i64 m2, .int .i64 m3, .int .i64 m4, .int .i64 m5, .int .i64 m6, .string m7, .string m8, .string m9, .slice ka kl kc]] W fun e w' => e = .returned (.int .i64 (cC : Int)) ∧ Below W.heap.size W w') := Lib.hid (fun W hW => by
              obtain ⟨F, S, E, hl, hz⟩ := laid_costR (i0 := i0) HI1.out.ok (⟨m1, m2, m3, m4, m5, m6, m7, m8, m9, m10⟩ : MsgM)
              rw [← HI1.out.bs] at hz
              have := tcost_any (HI1.out.new hW).two.ti.tg HI1.out.two.ti.rc.roomOk (⟨m1, m2, m3, m4, m5, m6, m7, m8, m9, m10⟩ : MsgM) (.slice ka kl kc) (HCS.out W hW) HCP.out HFN.out hl
              rw [show (F.size : Int) + S.size = (cC : Int) by rw [hcC, ← hz]; omega] at this
              exact this)
            obtain ⟨rm, hrm⟩ : ∃ x, x = (st.cap : Int) - st.size := ⟨_, rfl⟩
            have HRM : Hid (∀ W, Chg (fun _ => False) W1 W → Calls Tryz.prog 11 #[.pointer (some ⟨db, 0, none⟩)] W fun e w' => e = .returned (.int .i64 rm) ∧ Below W.heap.size W w') := Lib.hid (fun W hW => by
              have hJ := HI1.out.new hW
              have := room_any g st W hJ.two.ti.tg.row.disk hJ.two.ti.rc.row.calm.good.size hJ.two.ti.rc.row.calm.good.cap
              rw [hJ.dd, ← hrm] at this
              exact this.mono fun e w' ⟨x, q, y⟩ => ⟨x, y ▸ below_drewN (Below.refl _ _) q⟩)
            obtain ⟨fR, hfR⟩ : ∃ x, x = B.size + fillR B.size (⟨m1, m2, m3, m4, m5, m6, m7, m8, m9, m10⟩ : MsgM) := ⟨_, rfl⟩
            have HAP : Hid (∀ W, Chg (fun _ => False) W1 W → (cC = 0 ∧ Calls Tryz.prog 12 #[.pointer (some ⟨tb, 0, none⟩), .agg #[.int .i64 m1, .int .i64 m2, .int .i64 m3, .int .i64 m4, .int .i64 m5, .int .i64 m6, .string m7, .string m8, .string m9, .slice ka kl kc]] W (Adds (.tuple #[.int .i64 0, .int .i64 1]) W)) ∨
                (0 < cC ∧ rm < (cC : Int) ∧ Calls Tryz.prog 12 #[.pointer (some ⟨tb, 0, none⟩), .agg #[.int .i64 m1, .int .i64 m2, .int .i64 m3, .int .i64 m4, .int .i64 m5, .int .i64 m6, .string m7, .string m8, .string m9, .slice ka kl kc]] W (Adds (.tuple #[.int .i64 0, .int .i64 7]) W)) ∨
                (0 < cC ∧ ¬ rm < (cC : Int) ∧ Calls Tryz.prog 12 #[.pointer (some ⟨tb, 0, none⟩), .agg #[.int .i64 m1, .int .i64 m2, .int .i64 m3, .int .i64 m4, .int .i64 m5, .int .i64 m6, .string m7, .string m8, .string m9, .slice ka kl kc]] W fun e w' => e = .returned (.tuple #[.int .i64 (fR : Int), .int .i64 0]) ∧ (∀ q, q < W.heap.size → Off tb t g q → w'.heap[q]? = W.heap[q]?) ∧ ∃ t' g' st' m' j' l', PlMid w w' db k tb rb B (⟨m1, m2, m3, m4, m5, m6, m7, m8, m9, m10⟩ : MsgM) t' g' st' m' i0 j' l' vI ids vL Ms)) := Lib.hid (fun W hW => by
              rw [hcC, hrm, hfR]
              exact (HI1.out.new hW).append hk80 (M := (⟨m1, m2, m3, m4, m5, m6, m7, m8, m9, m10⟩ : MsgM)) (vk := .slice ka kl kc) (HCS.out W hW) HCP.out HFN.out)
            have HRA : Hid (∀ W t' g' st' m' j' l', PlMid w W db k tb rb B (⟨m1, m2, m3, m4, m5, m6, m7, m8, m9, m10⟩ : MsgM) t' g' st' m' i0 j' l' vI ids vL Ms → Calls Tryz.prog 13 #[.pointer (some ⟨rb, 0, none⟩), .agg #[.int .i64 m1, .int .i64 m2, .int .i64 m3, .int .i64 m4, .int .i64 m5, .int .i64 m6, .string m7, .string m8, .string m9, .slice ka kl kc]] W fun e w' => e = .returned (.int .i64 (fR : Int)) ∧ (∀ q, q < W.heap.size → ¬ RefS rb vI vL q → w'.heap[q]? = W.heap[q]?) ∧ PlE w w' db (k + 1) tb rb) := Lib.hid (fun W t' g' st' m' j' l' h => by
              rw [hfR]
              exact h.app hk80 (vk := .slice ka kl kc) HSW.out HFN.out)
            have HC0 : Hid (Chg (fun _ => False) W1 W1) := Lib.hid (Chg.refl _ _)
            clear hcC hrm hfR
            go_wp2_with fail
            refine (HRC.out W1 HC0.out).mono ?_
            rintro e wA ⟨rfl, hbA⟩
            have HCA := Lib.hid (below_chg hbA)
            clear hkx
            have HIA := Lib.hid (HI1.out.new (below_chg hbA))
            have HOA : Hid (BoxO wA BX #[.int .i64 0, .int .i64 xn, .int .i64 m1, .int .i64 m2, .int .i64 m3, .int .i64 m4, .int .i64 m5, .int .i64 m6, .string m7, .string m8, .string m9, .slice ka kl kc]) := Lib.hid ((below_chg hbA).heap HO1.out (fun e => e))
            have hkx := HOA.out.cell
            clear hbA
            go_wp2_with fail
            refine (HTC.out wA HCA.out).mono ?_
            rintro e wB ⟨rfl, hbB⟩
            have HCB := Lib.hid (HCA.out.trans (below_chg hbB) (fun _ _ e => e))
            clear hkx
            have HIB := Lib.hid (HIA.out.new (below_chg hbB))
            have HOB : Hid (BoxO wB BX #[.int .i64 0, .int .i64 xn, .int .i64 m1, .int .i64 m2, .int .i64 m3, .int .i64 m4, .int .i64 m5, .int .i64 m6, .string m7, .string m8, .string m9, .slice ka kl kc]) := Lib.hid ((below_chg hbB).heap HOA.out (fun e => e))
            have hkx := HOB.out.cell
            clear hbB
            go_wp2_with fail
            refine (HRM.out wB HCB.out).mono ?_
            rintro e wC ⟨rfl, hbC⟩
            have HCC := Lib.hid (HCB.out.trans (below_chg hbC) (fun _ _ e => e))
            clear hkx
            have HIC := Lib.hid (HIB.out.new (below_chg hbC))
            have HOC : Hid (BoxO wC BX #[.int .i64 0, .int .i64 xn, .int .i64 m1, .int .i64 m2, .int .i64 m3, .int .i64 m4, .int .i64 m5, .int .i64 m6, .string m7, .string m8, .string m9, .slice ka kl kc]) := Lib.hid ((below_chg hbC).heap HOB.out (fun e => e))
            have hkx := HOC.out.cell
            clear hbC
            rcases HAP.out wC HCC.out with ⟨rfl, hA⟩ | ⟨z0, z1, hA⟩ | ⟨z0, z1, hA⟩
            · have HA := Lib.hid hA
              clear hA
              go_wp2_with fail
              refine HA.out.mono ?_
              rintro e wD ⟨rfl, hbD⟩
              clear hkx
              have HID := Lib.hid (HIC.out.new (below_chg hbD))
              have HOD : Hid (BoxO wD BX #[.int .i64 0, .int .i64 xn, .int .i64 m1, .int .i64 m2, .int .i64 m3, .int .i64 m4, .int .i64 m5, .int .i64 m6, .string m7, .string m8, .string m9, .slice ka kl kc]) := Lib.hid ((below_chg hbD).heap HOC.out (fun e => e))
              have hkx := HOD.out.cell
              clear hbD
              go_wp2_with fail
              go_meet
              case rel => exact ⟨_, rfl, ⟨_, _, _, _, _, _, _, _, _, _, _, _, HID.out.more⟩, HOD.out⟩
            · have HA := Lib.hid hA
              have z2 : ¬ (cC : Int) = 0 := by omega
              have z3 : ((cC : Int) == 0) = false := by simpa using z2
              clear hA
              go_wp2_with fail
              refine HA.out.mono ?_
              rintro e wD ⟨rfl, hbD⟩
              have HCD := Lib.hid (HCC.out.trans (below_chg hbD) (fun _ _ e => e))
              clear hkx
              have HID := Lib.hid (HIC.out.new (below_chg hbD))
              have HOD : Hid (BoxO wD BX #[.int .i64 0, .int .i64 xn, .int .i64 m1, .int .i64 m2, .int .i64 m3, .int .i64 m4, .int .i64 m5, .int .i64 m6, .string m7, .string m8, .string m9, .slice ka kl kc]) := Lib.hid ((below_chg hbD).heap HOC.out (fun e => e))
              have hkx := HOD.out.cell
              clear hbD
              go_wp2_with fail
              refine (HRM.out wD HCD.out).mono ?_
              rintro e wE ⟨rfl, hbE⟩
              clear hkx
              have HIE := Lib.hid (HID.out.new (below_chg hbE))
              have HOE : Hid (BoxO wE BX #[.int .i64 0, .int .i64 xn, .int .i64 m1, .int .i64 m2, .int .i64 m3, .int .i64 m4, .int .i64 m5, .int .i64 m6, .string m7, .string m8, .string m9, .slice ka kl kc]) := Lib.hid ((below_chg hbE).heap HOD.out (fun e => e))
              have hkx := HOE.out.cell
              clear hbE
              go_wp2_with fail
              go_meet
              case rel => exact ⟨_, rfl, ⟨_, _, _, _, _, _, _, _, _, _, _, _, HIE.out.more⟩, HOE.out⟩
            · have HA := Lib.hid hA
              have z2 : ¬ (cC : Int) = 0 := by omega
              have z3 : ((cC : Int) == 0) = false := by simpa using z2
              clear hA
              go_wp2_with fail
              refine HA.out.mono ?_
              rintro e wD ⟨rfl, hkp, t', g', st', m', j', l', hM⟩
              have HOD : Hid (BoxO wD BX #[.int .i64 0, .int .i64 xn, .int .i64 m1, .int .i64 m2, .int .i64 m3, .int .i64 m4, .int .i64 m5, .int .i64 m6, .string m7, .string m8, .string m9, .slice ka kl kc]) := Lib.hid ((hkp BX (Array.getElem?_eq_some_iff.1 HOC.out).1 HOF.out.1).trans HOC.out)
              have HM := Lib.hid hM
              have HR2 := Lib.hid (HRA.out wD _ _ _ _ _ _ hM)
              clear hkx hkp hM
              have hkx := HOD.out.cell
              go_wp2_with fail
              refine HR2.out.mono ?_
              rintro e wE ⟨rfl, hkp, hE⟩
              have HOE : Hid (BoxO wE BX #[.int .i64 0, .int .i64 xn, .int .i64 m1, .int .i64 m2, .int .i64 m3, .int .i64 m4, .int .i64 m5, .int .i64 m6, .string m7, .string m8, .string m9, .slice ka kl kc]) := Lib.hid ((hkp BX (Array.getElem?_eq_some_iff.1 HOD.out).1 HOF.out.2).trans HOD.out)
              have HE := Lib.hid hE
              clear hkx hkp hE
              go_wp2_with fail
              go_meet
              case rel => exact ⟨_, rfl, HE.out, HOE.out⟩
        by_cases e1 : xk = 1
        · as_aux_lemma =>
            subst e1
            have HSY := Lib.hid (HI1.out.sync hk80)
            go_wp2_with fail
            refine HSY.out.mono ?_
            rintro e wA ⟨rfl, hkp, g', st', m', hJ, hsy⟩
            have HOA : Hid (BoxO wA BX #[.int .i64 1, .int .i64 xn, .int .i64 m1, .int .i64 m2, .int .i64 m3, .int .i64 m4, .int .i64 m5, .int .i64 m6, .string m7, .string m8, .string m9, .slice ka kl kc]) := Lib.hid ((hkp BX (Array.getElem?_eq_some_iff.1 HO1.out).1 HOF.out.1).trans HO1.out)
            have HJ := Lib.hid hJ
            have h1 := tsynced_any hJ.two.ti.tg
            have h2 := tend_any hJ.two.ti.tg
            rw [hsy] at h1
            rw [hJ.two.ti.rc.row.end_, ← hJ.bs] at h2
            have H1 := Lib.hid h1
            have H2 := Lib.hid h2
            clear hkx hkp hJ hsy h1 h2
            go_wp2_with fail
            refine H1.out.mono ?_
            rintro e wB ⟨rfl, rfl⟩
            go_wp2_with fail
            refine H2.out.mono ?_
            rintro e wB ⟨rfl, rfl⟩
            go_wp2_with fail
            go_meet
            case rel => exact ⟨_, rfl, ⟨_, _, _, _, _, _, _, _, _, _, _, _, HJ.out.more⟩, HOA.out⟩
        by_cases e2 : xk = 2
        · as_aux_lemma =>
            subst e2
            rcases HI1.out.drop hk80 with ⟨hm, hD⟩ | ⟨hm, hD⟩
            · have HD := Lib.hid hD
              clear hD
              go_wp2_with fail
              refine HD.out.mono ?_
              rintro e wA ⟨rfl, hkp, t', g', st', m', l', hdr⟩
              have HOA : Hid (BoxO wA BX #[.int .i64 2, .int .i64 xn, .int .i64 m1, .int .i64 m2, .int .i64 m3, .int .i64 m4, .int .i64 m5, .int .i64 m6, .string m7, .string m8, .string m9, .slice ka kl kc]) := Lib.hid ((hkp BX (Array.getElem?_eq_some_iff.1 HO1.out).1 HOF.out.1).trans HO1.out)
              have HRD := Lib.hid (hdr.rdrop hk80)
              clear hkx hkp hdr hm
              obtain ⟨an, han⟩ : ∃ x, x = 1024 * (i0 + 1) := ⟨_, rfl⟩
              rw [← han]
              have HAN := Lib.hid han
              clear han
              go_wp2_with fail
              refine HRD.out.mono ?_
              rintro e wB ⟨rfl, hkp, hJ⟩
              have HOB : Hid (BoxO wB BX #[.int .i64 2, .int .i64 xn, .int .i64 m1, .int .i64 m2, .int .i64 m3, .int .i64 m4, .int .i64 m5, .int .i64 m6, .string m7, .string m8, .string m9, .slice ka kl kc]) := Lib.hid ((hkp BX (Array.getElem?_eq_some_iff.1 HOA.out).1 (fun e => HOF.out.2 (.inl e))).trans HOA.out)
              have HJ := Lib.hid hJ
              obtain ⟨q0, q1, q2, q3, qz⟩ := hJ.two.rf.ref.cell
              rw [← HAN.out] at q1
              clear hkp hJ q0 q2 q3 qz
              go_wp2_with fail
              go_meet
              case rel => exact ⟨_, rfl, ⟨_, _, _, _, _, _, _, _, _, _, _, _, HJ.out.more⟩, HOB.out⟩
            · have HD := Lib.hid hD
              clear hD
              go_wp2_with fail
              refine HD.out.mono ?_
              rintro e wA ⟨rfl, hkp, g', st', m', hJ⟩
              have HOA : Hid (BoxO wA BX #[.int .i64 2, .int .i64 xn, .int .i64 m1, .int .i64 m2, .int .i64 m3, .int .i64 m4, .int .i64 m5, .int .i64 m6, .string m7, .string m8, .string m9, .slice ka kl kc]) := Lib.hid ((hkp BX (Array.getElem?_eq_some_iff.1 HO1.out).1 HOF.out.1).trans HO1.out)
              have HJ := Lib.hid hJ
              have HRD := Lib.hid (rdrop_few hJ.two.rf.ref (by have h1 := hJ.len; omega) hm)
              clear hkx hkp hJ hm
              go_wp2_with fail
              refine HRD.out.mono ?_
              rintro e wB ⟨rfl, q, rfl⟩
              have HJ2 : Hid (PlJ w (wA.drewN q) db k tb rb t g' st' m' i0 j l B vI ids vL Ms) := Lib.hid (HJ.out.new ((Chg.refl _ _).drewN q))
              have HO2 : Hid (BoxO (wA.drewN q) BX #[.int .i64 2, .int .i64 xn, .int .i64 m1, .int .i64 m2, .int .i64 m3, .int .i64 m4, .int .i64 m5, .int .i64 m6, .string m7, .string m8, .string m9, .slice ka kl kc]) := HOA
              go_wp2_with fail
              go_meet
              case rel => exact ⟨_, rfl, ⟨_, _, _, _, _, _, _, _, _, _, _, _, HJ2.out.more⟩, HO2.out⟩
        by_cases e3 : xk = 3
        · subst e3
          rcases HI1.out.read hk80 xn HXN.out with ⟨n0, n1, hR⟩ | ⟨n0, n1, hR, hS⟩ | ⟨n0, K, M, vkk, bs, n1, n2, n3, n4, n5, hR, hS⟩
          · as_aux_lemma =>
              have HRD := Lib.hid hR
              clear hR
              go_wp2_with fail
              refine HRD.out.mono ?_
              rintro e wA ⟨vq, rfl, hsA, hcpA, hbA⟩
              obtain ⟨qa, qc, hvq⟩ := hsA.form
              have hvq : vq = .slice qa 0 qc := hvq
              subst hvq
              unfold zeroM MsgM.val MsgM.cells
              dsimp only
              have HSA := Lib.hid hsA
              obtain ⟨WB, hWB⟩ : ∃ W, W = wA.alloc (.cells #[.int .i64 0, .int .i64 0, .int .i64 0, .int .i64 0, .int .i64 0, .int .i64 0, .string ⟨#[]⟩, .string ⟨#[]⟩, .string ⟨#[]⟩, .slice qa 0 qc] 38) := ⟨_, rfl⟩
              obtain ⟨bm, hbm⟩ : ∃ b, b = wA.heap.size := ⟨_, rfl⟩
              have hbB : Below wA.heap.size wA WB := hWB ▸ (Below.refl _ _).alloc (Nat.le_refl _) _
              have HBM : Hid (Box WB bm #[.int .i64 0, .int .i64 0, .int .i64 0, .int .i64 0, .int .i64 0, .int .i64 0, .string ⟨#[]⟩, .string ⟨#[]⟩, .string ⟨#[]⟩, .slice qa 0 qc]) := Lib.hid (by rw [hWB, hbm]; exact Box.new wA _)
              have hcB : Chg (fun _ => False) W1 WB := (below_chg hbA).trans (below_chg hbB) (fun _ _ e => e)
              have HCB := Lib.hid hcB
              have HBB := Lib.hid hbB
              have HIB := Lib.hid (HI1.out.new hcB)
              have HOB : Hid (BoxO WB BX #[.int .i64 3, .int .i64 xn, .int .i64 m1, .int .i64 m2, .int .i64 m3, .int .i64 m4, .int .i64 m5, .int .i64 m6, .string m7, .string m8, .string m9, .slice ka kl kc]) := Lib.hid (hcB.heap HO1.out (fun e => e))
              have HFD := Lib.hid (rfind_any HIB.out.two.rf.ref (by have := HIB.out.il; omega) xn)
              have HWB := Lib.hid hWB
              have HBMS := Lib.hid hbm
              clear hkx hsA hcpA hbA hWB hbm hbB hcB
              have hkx := HOB.out.cell
              obtain ⟨fd, hfd⟩ : ∃ x, x = findR ids ((1024 * i0 : Nat) : Int) xn := ⟨_, rfl⟩
              rw [← hfd] at HFD
              clear hfd
              go_upto_region 38 with fail
              rw [← HWB.out, ← HBMS.out]
              go_wp2_with fail
              refine HFD.out.mono ?_
              rintro e wC ⟨rfl, q, rfl⟩
              obtain ⟨wC, hwC⟩ : ∃ W, W = WB.drewN q := ⟨_, rfl⟩
              rw [← hwC]
              have hcC : Chg (fun _ => False) WB wC := by rw [hwC]; exact (Chg.refl _ _).drewN q
              have HCC := Lib.hid hcC
              have HIC := Lib.hid (HIB.out.new hcC)
              have HOC : Hid (BoxO wC BX #[.int .i64 3, .int .i64 xn, .int .i64 m1, .int .i64 m2, .int .i64 m3, .int .i64 m4, .int .i64 m5, .int .i64 m6, .string m7, .string m8, .string m9, .slice ka kl kc]) := Lib.hid (hcC.heap HOB.out (fun e => e))
              have hbmC : Box wC bm #[.int .i64 0, .int .i64 0, .int .i64 0, .int .i64 0, .int .i64 0, .int .i64 0, .string ⟨#[]⟩, .string ⟨#[]⟩, .string ⟨#[]⟩, .slice qa 0 qc] := hcC.heap HBM.out (fun e => e)
              have HBC := Lib.hid hbmC
              clear hkx hwC hcC hbmC
              have hkx := HOC.out.cell
              obtain ⟨c0, c1, c2, c3, cz⟩ := HIC.out.two.rf.ref.cell
              obtain ⟨lo, hlo⟩ : ∃ x, x = 1024 * i0 := ⟨_, rfl⟩
              rw [← hlo] at c1 n1
              have d0 : decide (0 ≤ xn) = true := decide_eq_true n0
              have d1 : decide (xn < (lo : Int)) = true := decide_eq_true n1
              clear hlo c0 c2 c3
              go_upto_region 41 with fail
              go_quiet (fail)
              go_wp2_with fail
              go_meet
              case rel => exact ⟨_, rfl, ⟨_, _, _, _, _, _, _, _, _, _, _, _, (HIC.out.new ((Chg.refl _ _).drewN _)).more⟩, HOC.out⟩
          · as_aux_lemma =>
              have HRD := Lib.hid hR
              have HSZ0 := Lib.hid hS
              clear hR hS
              go_wp2_with fail
              refine HRD.out.mono ?_
              rintro e wA ⟨vq, rfl, hsA, hcpA, hbA⟩
              obtain ⟨qa, qc, hvq⟩ := hsA.form
              have hvq : vq = .slice qa 0 qc := hvq
              subst hvq
              unfold zeroM MsgM.val MsgM.cells
              dsimp only
              have HSA := Lib.hid hsA
              obtain ⟨WB, hWB⟩ : ∃ W, W = wA.alloc (.cells #[.int .i64 0, .int .i64 0, .int .i64 0, .int .i64 0, .int .i64 0, .int .i64 0, .string ⟨#[]⟩, .string ⟨#[]⟩, .string ⟨#[]⟩, .slice qa 0 qc] 38) := ⟨_, rfl⟩
              obtain ⟨bm, hbm⟩ : ∃ b, b = wA.heap.size := ⟨_, rfl⟩
              have hbB : Below wA.heap.size wA WB := hWB ▸ (Below.refl _ _).alloc (Nat.le_refl _) _
              have HBM : Hid (Box WB bm #[.int .i64 0, .int .i64 0, .int .i64 0, .int .i64 0, .int .i64 0, .int .i64 0, .string ⟨#[]⟩, .string ⟨#[]⟩, .string ⟨#[]⟩, .slice qa 0 qc]) := Lib.hid (by rw [hWB, hbm]; exact Box.new wA _)
              have hcB : Chg (fun _ => False) W1 WB := (below_chg hbA).trans (below_chg hbB) (fun _ _ e => e)
              have HCB := Lib.hid hcB
              have HBB := Lib.hid hbB
              have HIB := Lib.hid (HI1.out.new hcB)
              have HOB : Hid (BoxO WB BX #[.int .i64 3, .int .i64 xn, .int .i64 m1, .int .i64 m2, .int .i64 m3, .int .i64 m4, .int .i64 m5, .int .i64 m6, .string m7, .string m8, .string m9, .slice ka kl kc]) := Lib.hid (hcB.heap HO1.out (fun e => e))
              have HFD := Lib.hid (rfind_any HIB.out.two.rf.ref (by have := HIB.out.il; omega) xn)
              have HWB := Lib.hid hWB
              have HBMS := Lib.hid hbm
              clear hkx hsA hcpA hbA hWB hbm hbB hcB
              have hkx := HOB.out.cell
              rw [n1] at HFD
              go_upto_region 38 with fail
              rw [← HWB.out, ← HBMS.out]
              go_wp2_with fail
              refine HFD.out.mono ?_
              rintro e wC ⟨rfl, q, rfl⟩
              obtain ⟨wC, hwC⟩ : ∃ W, W = WB.drewN q := ⟨_, rfl⟩
              rw [← hwC]
              have hcC : Chg (fun _ => False) WB wC := by rw [hwC]; exact (Chg.refl _ _).drewN q
              have HCC := Lib.hid hcC
              have HIC := Lib.hid (HIB.out.new hcC)
              have HOC : Hid (BoxO wC BX #[.int .i64 3, .int .i64 xn, .int .i64 m1, .int .i64 m2, .int .i64 m3, .int .i64 m4, .int .i64 m5, .int .i64 m6, .string m7, .string m8, .string m9, .slice ka kl kc]) := Lib.hid (hcC.heap HOB.out (fun e => e))
              have hbmC : Box wC bm #[.int .i64 0, .int .i64 0, .int .i64 0, .int .i64 0, .int .i64 0, .int .i64 0, .string ⟨#[]⟩, .string ⟨#[]⟩, .string ⟨#[]⟩, .slice qa 0 qc] := hcC.heap HBM.out (fun e => e)
              have HBC := Lib.hid hbmC
              clear hkx hwC hcC hbmC
              have hkx := HOC.out.cell
              obtain ⟨c0, c1, c2, c3, cz⟩ := HIC.out.two.rf.ref.cell
              obtain ⟨lo, hlo⟩ : ∃ x, x = 1024 * i0 := ⟨_, rfl⟩
              rw [← hlo] at c1 n0
              have HSZ : Hid (∀ W, Chg (fun _ => False) wC W → Calls Tryz.prog 21 #[.pointer (some ⟨tb, 0, none⟩), .int .i64 xn] W fun e w' => e = .returned (.int .i64 0) ∧ W = w') := Lib.hid (fun W hW => HSZ0.out W ((HCB.out.trans HCC.out (fun _ _ e => e)).trans hW (fun _ _ e => e)))
              clear hlo c0 c2 c3 n1 HSZ0
              by_cases d0 : 0 ≤ xn
              · have d1 : ¬ xn < (lo : Int) := fun h => n0 ⟨d0, h⟩
                have d2 : decide (0 ≤ xn) = true := decide_eq_true d0
                have d3 : decide (xn < (lo : Int)) = false := decide_eq_false d1
                go_upto_region 41 with fail
                go_quiet (fail)
                rename_i nq
                have HIQ := Lib.hid (HIC.out.new ((Chg.refl _ wC).drewN nq))
                have HOQ : Hid (BoxO (wC.drewN nq) BX #[.int .i64 3, .int .i64 xn, .int .i64 m1, .int .i64 m2, .int .i64 m3, .int .i64 m4, .int .i64 m5, .int .i64 m6, .string m7, .string m8, .string m9, .slice ka kl kc]) := HOC
                have HSQ := Lib.hid (HSZ.out (wC.drewN nq) ((Chg.refl _ wC).drewN nq))
                have hkq := HOQ.out.cell
                clear hkx d0 d1 d2 d3 c1 cz
                generalize wC.drewN nq = wq at *
                go_wp2_with fail
                refine HSQ.out.mono ?_
                rintro e wD ⟨rfl, rfl⟩
                go_wp2_with fail
                go_meet
                case rel => exact ⟨_, rfl, ⟨_, _, _, _, _, _, _, _, _, _, _, _, HIQ.out.more⟩, HOQ.out⟩
              · have d2 : decide (0 ≤ xn) = false := decide_eq_false d0
                go_upto_region 41 with fail
                go_quiet (fail)
                rename_i nq
                have HIQ := Lib.hid (HIC.out.new ((Chg.refl _ wC).drewN nq))
                have HOQ : Hid (BoxO (wC.drewN nq) BX #[.int .i64 3, .int .i64 xn, .int .i64 m1, .int .i64 m2, .int .i64 m3, .int .i64 m4, .int .i64 m5, .int .i64 m6, .string m7, .string m8, .string m9, .slice ka kl kc]) := HOC
                have HSQ := Lib.hid (HSZ.out (wC.drewN nq) ((Chg.refl _ wC).drewN nq))
                have hkq := HOQ.out.cell
                clear hkx d0 d2 c1 cz
                generalize wC.drewN nq = wq at *
                go_wp2_with fail
                refine HSQ.out.mono ?_
                rintro e wD ⟨rfl, rfl⟩
                go_wp2_with fail
                go_meet
                case rel => exact ⟨_, rfl, ⟨_, _, _, _, _, _, _, _, _, _, _, _, HIQ.out.more⟩, HOQ.out⟩
          · as_aux_lemma =>
              obtain ⟨r1, r2, r3, r4, r5, r6, r7, r8, r9, r10⟩ := M
              obtain ⟨ql, hql⟩ : ∃ l, l = r10.length := ⟨_, rfl⟩
              have HQL := Lib.hid hql
              have hsp := HI1.out.strs _ (List.mem_of_getElem? n2)
              obtain ⟨pa, pc, hvk⟩ := hsp.form
              dsimp only at hvk
              rw [← hql] at hvk
              subst hvk
              have HSP : Hid (Strs w 0 (.slice pa ql pc) r10) := Lib.hid hsp
              have HRD := Lib.hid hR
              have HSZ0 := Lib.hid hS
              have HN2 := Lib.hid n2
              have HPUT := Lib.hid (And.intro n3 (And.intro n4 n5))
              clear hR hS hql hsp n2 n3 n4 n5
              go_wp2_with fail
              refine HRD.out.mono ?_
              rintro e wA ⟨vq, rfl, hsA, hcpA, hbA⟩
              obtain ⟨qa, qc, hvq⟩ := hsA.form
              dsimp only at hvq hsA
              rw [← HQL.out] at hvq
              subst hvq
              unfold MsgM.val MsgM.cells
              dsimp only
              have HSA := Lib.hid hsA
              obtain ⟨WB, hWB⟩ : ∃ W, W = wA.alloc (.cells #[.int .i64 r1, .int .i64 r2, .int .i64 r3, .int .i64 r4, .int .i64 r5, .int .i64 r6, .string r7, .string r8, .string r9, .slice qa ql qc] 38) := ⟨_, rfl⟩
              obtain ⟨bm, hbm⟩ : ∃ b, b = wA.heap.size := ⟨_, rfl⟩
              have hbB : Below wA.heap.size wA WB := hWB ▸ (Below.refl _ _).alloc (Nat.le_refl _) _
              have HBM : Hid (Box WB bm #[.int .i64 r1, .int .i64 r2, .int .i64 r3, .int .i64 r4, .int .i64 r5, .int .i64 r6, .string r7, .string r8, .string r9, .slice qa ql qc]) := Lib.hid (by rw [hWB, hbm]; exact Box.new wA _)
              have hcB : Chg (fun _ => False) W1 WB := (below_chg hbA).trans (below_chg hbB) (fun _ _ e => e)
              have HCB := Lib.hid hcB
              have HBB := Lib.hid hbB
              have HIB := Lib.hid (HI1.out.new hcB)
              have HOB : Hid (BoxO WB BX #[.int .i64 3, .int .i64 xn, .int .i64 m1, .int .i64 m2, .int .i64 m3, .int .i64 m4, .int .i64 m5, .int .i64 m6, .string m7, .string m8, .string m9, .slice ka kl kc]) := Lib.hid (hcB.heap HO1.out (fun e => e))
              have HFD := Lib.hid (rfind_any HIB.out.two.rf.ref (by have := HIB.out.il; omega) xn)
              have HWB := Lib.hid hWB
              have HBMS := Lib.hid hbm
              clear hkx hsA hcpA hbA hWB hbm hbB hcB
              have hkx := HOB.out.cell
              rw [n1] at HFD
              go_upto_region 38 with fail
              rw [← HWB.out, ← HBMS.out]
              go_wp2_with fail
              refine HFD.out.mono ?_
              rintro e wC ⟨rfl, q, rfl⟩
              obtain ⟨wC, hwC⟩ : ∃ W, W = WB.drewN q := ⟨_, rfl⟩
              rw [← hwC]
              have hcC : Chg (fun _ => False) WB wC := by rw [hwC]; exact (Chg.refl _ _).drewN q
              have HCC := Lib.hid hcC
              have HIC := Lib.hid (HIB.out.new hcC)
              have HOC : Hid (BoxO wC BX #[.int .i64 3, .int .i64 xn, .int .i64 m1, .int .i64 m2, .int .i64 m3, .int .i64 m4, .int .i64 m5, .int .i64 m6, .string m7, .string m8, .string m9, .slice ka kl kc]) := Lib.hid (hcC.heap HOB.out (fun e => e))
              have hbmC : Box wC bm #[.int .i64 r1, .int .i64 r2, .int .i64 r3, .int .i64 r4, .int .i64 r5, .int .i64 r6, .string r7, .string r8, .string r9, .slice qa ql qc] := hcC.heap HBM.out (fun e => e)
              have HBC := Lib.hid hbmC
              clear hkx hwC hcC hbmC
              have hkx := HOC.out.cell
              obtain ⟨c0, c1, c2, c3, cz⟩ := HIC.out.two.rf.ref.cell
              obtain ⟨lo, hlo⟩ : ∃ x, x = 1024 * i0 := ⟨_, rfl⟩
              rw [← hlo] at c1 n0
              clear hlo c0 c2 c3 n1
              obtain ⟨gL, Ln, lc, hvl, hKL, hLz⟩ : ∃ gL Ln lc, vL = .slice (some ⟨gL, 0, none⟩) Ln lc ∧ K < Ln ∧ Ln ≤ 1000 := by
                have hKM : K < Ms.length := (List.getElem?_eq_some_iff.1 HN2.out).1
                rcases HIC.out.two.rf.row.form with ⟨hv0, hm0⟩ | ⟨gL, lc, hvl, _, _, _⟩
                · rw [hm0] at hKM; cases hKM
                · exact ⟨gL, _, lc, hvl, hKM, by have := HIC.out.ml; omega⟩
              have HVL := Lib.hid hvl
              obtain ⟨PB, hPB⟩ : ∃ P : ByteArray, P = ⟨bs.toArray⟩ := ⟨_, rfl⟩
              obtain ⟨ps, hps⟩ : ∃ p, p = bs.length := ⟨_, rfl⟩
              have HPS : Hid (PB.size = ps) := Lib.hid (by rw [hPB, sizeL, hps])
              have HCC2 : Hid (∀ W, Chg (fun _ => False) wC W → (∀ i, W.cell? ⟨bm, i, none⟩ = (#[.int .i64 r1, .int .i64 r2, .int .i64 r3, .int .i64 r4, .int .i64 r5, .int .i64 r6, .string r7, .string r8, .string r9, .slice qa ql qc] : Array Value)[i]?) ∧ W.cell? ⟨rb, 3, none⟩ = some (.slice (some ⟨gL, 0, none⟩) Ln lc) ∧ (∀ j u, (#[.int .i64 r1, .int .i64 r2, .int .i64 r3, .int .i64 r4, .int .i64 r5, .int .i64 r6, .string r7, .string r8, .string r9, .slice pa ql pc] : Array Value)[j]? = some u → W.cell? ⟨gL, K * 10 + j, none⟩ = some u) ∧ ∀ i, W.cell? ⟨BX, i, none⟩ = (#[.int .i64 3, .int .i64 xn, .int .i64 m1, .int .i64 m2, .int .i64 m3, .int .i64 m4, .int .i64 m5, .int .i64 m6, .string m7, .string m8, .string m9, .slice ka kl kc] : Array Value)[i]?) := Lib.hid (fun W hW => by
                have hJ := HIC.out.new hW
                refine ⟨(show Box W bm #[.int .i64 r1, .int .i64 r2, .int .i64 r3, .int .i64 r4, .int .i64 r5, .int .i64 r6, .string r7, .string r8, .string r9, .slice qa ql qc] from hW.heap HBC.out (fun e => e)).cell, by rw [← hvl]; exact hJ.two.rf.ref.cell.2.2.2.1, fun j u hu => ?_, (show BoxO W BX #[.int .i64 3, .int .i64 xn, .int .i64 m1, .int .i64 m2, .int .i64 m3, .int .i64 m4, .int .i64 m5, .int .i64 m6, .string m7, .string m8, .string m9, .slice ka kl kc] from hW.heap HOC.out (fun e => e)).cell⟩
                rcases hJ.two.rf.row.form with ⟨hv0, hm0⟩ | ⟨gL', lc', hvl', _, _, hc⟩
                · rw [hvl] at hv0; injection hv0 with e1; cases e1
                · rw [hvl] at hvl'
                  have e1 : gL = gL' := by injection hvl' with e1 _ _; injection e1 with e1; injection e1
                  subst e1
                  exact hc K _ HN2.out j u (by simpa [MsgM.cells] using hu))
              have HSM2 : Hid (∀ W, Chg (fun _ => False) wC W → Calls Tryz.prog 22 #[.agg #[.int .i64 r1, .int .i64 r2, .int .i64 r3, .int .i64 r4, .int .i64 r5, .int .i64 r6, .string r7, .string r8, .string r9, .slice qa ql qc], .agg #[.int .i64 r1, .int .i64 r2, .int .i64 r3, .int .i64 r4, .int .i64 r5, .int .i64 r6, .string r7, .string r8, .string r9, .slice pa ql pc]] W fun e w' => e = .returned (.bool true) ∧ Below W.heap.size W w') := Lib.hid (fun W hW => by
                have hJ := HIC.out.new hW
                have hA : Below wA.heap.size wA W := HBB.out.trans ((chg_below (HCC.out.trans hW (fun _ _ e => e))).mono HBB.out.size)
                exact rsame_any (⟨r1, r2, r3, r4, r5, r6, r7, r8, r9, r10⟩ : MsgM) (⟨r1, r2, r3, r4, r5, r6, r7, r8, r9, r10⟩ : MsgM) (.slice qa ql qc) (.slice pa ql pc) true W (strs_up (HSA.out.below hA (by have := HBB.out.size; omega)) (Nat.zero_le _)) (HSP.out.below (chg_below hJ.two.ti.tg.row.chg) (Nat.le_refl _)) HPUT.out.1 HPUT.out.1 (sameB_iff.2 rfl))
              have HSZ2 : Hid (∀ W, Chg (fun _ => False) wC W → Calls Tryz.prog 21 #[.pointer (some ⟨tb, 0, none⟩), .int .i64 xn] W fun e w' => e = .returned (.int .i64 (ps : Int)) ∧ Below W.heap.size W w') := Lib.hid (fun W hW => by
                rw [hps]
                exact (HSZ0.out W ((HCB.out.trans HCC.out (fun _ _ e => e)).trans hW (fun _ _ e => e))).mono fun e w' ⟨x, y⟩ => ⟨x, y ▸ Below.refl _ _⟩)
              have HPU2 : Hid (∀ W, Chg (fun _ => False) wC W → Calls Tryz.prog 23 #[.agg #[.int .i64 r1, .int .i64 r2, .int .i64 r3, .int .i64 r4, .int .i64 r5, .int .i64 r6, .string r7, .string r8, .string r9, .slice qa ql qc]] W fun e w' => e = .returned (.string PB) ∧ Below W.heap.size W w') := Lib.hid (fun W hW => by
                have hA : Below wA.heap.size wA W := HBB.out.trans ((chg_below (HCC.out.trans hW (fun _ _ e => e))).mono HBB.out.size)
                have := rput_any (⟨r1, r2, r3, r4, r5, r6, r7, r8, r9, r10⟩ : MsgM) (.slice qa ql qc) W (strs_up (HSA.out.below hA (by have := HBB.out.size; omega)) (Nat.zero_le _)) HPUT.out.2.2
                rw [HPUT.out.2.1, Option.getD_some, ← hPB] at this
                exact this)
              clear hvl hPB hps HSZ0 HN2 HPUT
              go_upto_region 41 with fail
              go_cut [178] from 179 to 190 (fun bv wx => bv = .bool false ∧ ∃ nq, wx = wC.drewN nq)
              case first =>
                by_cases d0 : 0 ≤ xn
                · have d1 : ¬ xn < (lo : Int) := fun h => n0 ⟨d0, h⟩
                  have d2 : decide (0 ≤ xn) = true := decide_eq_true d0
                  have d3 : decide (xn < (lo : Int)) = false := decide_eq_false d1
                  go_quiet (fail)
                  go_wp2_with fail
                  go_meet
                  case rel => exact ⟨rfl, _, rfl⟩
                · have d2 : decide (0 ≤ xn) = false := decide_eq_false d0
                  go_quiet (fail)
                  go_wp2_with fail
                  go_meet
                  case rel => exact ⟨rfl, _, rfl⟩
              case rest =>
              obtain ⟨rfl, nq, rfl⟩ := hcut
              have hcq : Chg (fun _ => False) wC (wC.drewN nq) := (Chg.refl _ wC).drewN nq
              obtain ⟨wq, hwq⟩ : ∃ W, W = wC.drewN nq := ⟨_, rfl⟩
              rw [← hwq] at hcq
              have HIQ := Lib.hid (HIC.out.new hcq)
              have HOQ : Hid (BoxO wq BX #[.int .i64 3, .int .i64 xn, .int .i64 m1, .int .i64 m2, .int .i64 m3, .int .i64 m4, .int .i64 m5, .int .i64 m6, .string m7, .string m8, .string m9, .slice ka kl kc]) := Lib.hid (hcq.heap HOC.out (fun e => e))
              have HCW := Lib.hid (fun W (hW : Below wq.heap.size wq W) => HCC2.out W (hcq.trans (below_chg hW) (fun _ _ e => e)))
              have HSM := Lib.hid (fun W (hW : Below wq.heap.size wq W) => HSM2.out W (hcq.trans (below_chg hW) (fun _ _ e => e)))
              have HSZ := Lib.hid (fun W (hW : Below wq.heap.size wq W) => HSZ2.out W (hcq.trans (below_chg hW) (fun _ _ e => e)))
              have HPU := Lib.hid (fun W (hW : Below wq.heap.size wq W) => HPU2.out W (hcq.trans (below_chg hW) (fun _ _ e => e)))
              have hkn : ¬ (K : Int) < 0 := by omega
              rw [← hwq]
              clear hkx hcq c1 cz hwq
              go_upto_region 39 with fail
              refine region_inv' (n := 262) rfl rfl (by kernel_rfl) (by kernel_rfl) (fun i v _ => match i with | 0 => v = .int .i64 0 | 1 => v = .bool false | 2 => v = .bool false | 3 => v = gv (true) (.agg #[.int .i64 r1, .int .i64 r2, .int .i64 r3, .int .i64 r4, .int .i64 r5, .int .i64 r6, .string r7, .string r8, .string r9, .slice qa ql qc]) | 4 => v = gv (true) (.pointer (some ⟨rb, 0, none⟩)) | 5 => v = gv (true) (.pointer (some ⟨rb, 0, none⟩)) | 6 => v = gv (true) (.pointer (some ⟨rb, 3, none⟩)) | 7 => v = gv (true) (.slice (some ⟨gL, 0, none⟩) Ln lc) | 8 => v = gv (true) (.int .i64 (K : Int)) | 9 => v = gv (true) (.pointer (some ⟨gL, K * 10, none⟩)) | 10 => v = gv (true) (.agg #[.int .i64 r1, .int .i64 r2, .int .i64 r3, .int .i64 r4, .int .i64 r5, .int .i64 r6, .string r7, .string r8, .string r9, .slice pa ql pc]) | 11 => v = gv (true) (.bool true) | 12 => v = gv (true) (.bool false) | 13 => v = .bool false | 14 => v = .bool false | 15 => v = gv (true) (.pointer (some ⟨tb, 0, none⟩)) | 16 => v = gv (true) (.pointer (some ⟨BX, 1, none⟩)) | 17 => v = gv (true) (.int .i64 xn) | 18 => v = gv (true) (.int .i64 (ps : Int)) | 19 => v = gv (true) (.agg #[.int .i64 r1, .int .i64 r2, .int .i64 r3, .int .i64 r4, .int .i64 r5, .int .i64 r6, .string r7, .string r8, .string r9, .slice qa ql qc]) | 20 => v = gv (true) (.string PB) | 21 => v = gv (true) (.int .i64 (ps : Int)) | 22 => v = gv (true) (.bool false) | 23 => v = .bool false | _ => True)
                (fun w' => Below wq.heap.size wq w') (fun w' w2 => Below wq.heap.size w' w2) (fun w' => Below.refl _ _) (fun _ _ _ _ _ h => h) (Below.refl _ _).drew ?_ ?_
              · simp only [AllAt]
                refine ⟨?_, ?_, ?_, ?_, ?_, ?_, ?_, ?_, ?_, ?_, ?_, ?_, ?_, ?_, ?_, ?_, ?_, ?_, ?_, ?_, ?_, ?_, ?_, ?_, trivial⟩
                · refine StepAt.plain rfl ?_
                  intro f w' hG hfr hp Kx hK
                  have g19 : f 19 = .int .i64 0 := hfr 19 (by kernel_rfl)
                  clear hfr hp
                  go_simp
                  exact hK _ _ rfl hG (Below.refl _ _)
                · refine StepAt.plain rfl ?_
                  intro f w' hG hfr hp Kx hK
                  have g154 : f 154 = .int .i64 0 := hp 0 _ 154 rfl rfl (by kernel_rfl)
                  clear hfr hp
                  go_simp
                  exact hK _ _ rfl hG (Below.refl _ _)
                · refine StepAt.plain rfl ?_
                  intro f w' hG hfr hp Kx hK
                  have g155 : f 155 = .bool false := hp 1 _ 155 rfl rfl (by kernel_rfl)
                  clear hfr hp
                  go_simp
                  exact hK _ _ rfl hG (Below.refl _ _)
                · refine StepAt.guarded 2 156 false _ rfl rfl rfl (by decide) (by kernel_rfl) (true) (by intro w v h; (have h : v = .bool false := h); rw [h]; (simp [gv, undef])) (by intro h w; show undef = gv (true) _; rw [h]; rfl) ?_
                  intro hc f w' hG hfr hp Kx hK
                  have g18 : f 18 = .pointer (some ⟨bm, 0, none⟩) := hfr 18 (by kernel_rfl)
                  clear hfr hp
                  have hbq := (HCW.out _ hG).1
                  go_simp
                  exact hK _ _ rfl hG (Below.refl _ _)
                · refine StepAt.guarded 2 156 false _ rfl rfl rfl (by decide) (by kernel_rfl) (true) (by intro w v h; (have h : v = .bool false := h); rw [h]; (simp [gv, undef])) (by intro h w; show undef = gv (true) _; rw [h]; rfl) ?_
                  intro hc f w' hG hfr hp Kx hK
                  have g8 : f 8 = .pointer (some ⟨rb, 0, none⟩) := hfr 8 (by kernel_rfl)
                  clear hfr hp
                  go_simp
                  exact hK _ _ rfl hG (Below.refl _ _)
                · refine StepAt.guarded 2 156 false _ rfl rfl rfl (by decide) (by kernel_rfl) (true) (by intro w v h; (have h : v = .bool false := h); rw [h]; (simp [gv, undef])) (by intro h w; show undef = gv (true) _; rw [h]; rfl) ?_
                  intro hc f w' hG hfr hp Kx hK
                  have g158 : f 158 = gv (true) (.pointer (some ⟨rb, 0, none⟩)) := hp 4 _ 158 rfl rfl (by kernel_rfl)
                  clear hfr hp
                  simp only [gv_true, gv_false, Bool.not_false, Bool.not_true, Bool.and_true, Bool.true_and] at g158
                  go_simp
                  exact hK _ _ rfl hG (Below.refl _ _)
                · refine StepAt.guarded 2 156 false _ rfl rfl rfl (by decide) (by kernel_rfl) (true) (by intro w v h; (have h : v = .bool false := h); rw [h]; (simp [gv, undef])) (by intro h w; show undef = gv (true) _; rw [h]; rfl) ?_
                  intro hc f w' hG hfr hp Kx hK
                  have g159 : f 159 = gv (true) (.pointer (some ⟨rb, 0, none⟩)) := hp 5 _ 159 rfl rfl (by kernel_rfl)
                  clear hfr hp
                  simp only [gv_true, gv_false, Bool.not_false, Bool.not_true, Bool.and_true, Bool.true_and] at g159
                  go_simp
                  exact hK _ _ rfl hG (Below.refl _ _)
                · refine StepAt.guarded 2 156 false _ rfl rfl rfl (by decide) (by kernel_rfl) (true) (by intro w v h; (have h : v = .bool false := h); rw [h]; (simp [gv, undef])) (by intro h w; show undef = gv (true) _; rw [h]; rfl) ?_
                  intro hc f w' hG hfr hp Kx hK
                  have g160 : f 160 = gv (true) (.pointer (some ⟨rb, 3, none⟩)) := hp 6 _ 160 rfl rfl (by kernel_rfl)
                  clear hfr hp
                  simp only [gv_true, gv_false, Bool.not_false, Bool.not_true, Bool.and_true, Bool.true_and] at g160
                  have hc3 := (HCW.out _ hG).2.1
                  go_simp
                  exact hK _ _ rfl hG (Below.refl _ _)
                · refine StepAt.guarded 2 156 false _ rfl rfl rfl (by decide) (by kernel_rfl) (true) (by intro w v h; (have h : v = .bool false := h); rw [h]; (simp [gv, undef])) (by intro h w; show undef = gv (true) _; rw [h]; rfl) ?_
                  intro hc f w' hG hfr hp Kx hK
                  have g20 : f 20 = .int .i64 (K : Int) := hfr 20 (by kernel_rfl)
                  clear hfr hp
                  go_simp
                  exact hK _ _ rfl hG (Below.refl _ _)
                · refine StepAt.guarded 2 156 false _ rfl rfl rfl (by decide) (by kernel_rfl) (true) (by intro w v h; (have h : v = .bool false := h); rw [h]; (simp [gv, undef])) (by intro h w; show undef = gv (true) _; rw [h]; rfl) ?_
                  intro hc f w' hG hfr hp Kx hK
                  have g161 : f 161 = gv (true) (.slice (some ⟨gL, 0, none⟩) Ln lc) := hp 7 _ 161 rfl rfl (by kernel_rfl)
                  have g162 : f 162 = gv (true) (.int .i64 (K : Int)) := hp 8 _ 162 rfl rfl (by kernel_rfl)
                  clear hfr hp
                  simp only [gv_true, gv_false, Bool.not_false, Bool.not_true, Bool.and_true, Bool.true_and] at g161 g162
                  have hki : (K : Int) < (Ln : Int) := by omega
                  go_simp
                  exact hK _ _ rfl hG (Below.refl _ _)
                · refine StepAt.guarded 2 156 false _ rfl rfl rfl (by decide) (by kernel_rfl) (true) (by intro w v h; (have h : v = .bool false := h); rw [h]; (simp [gv, undef])) (by intro h w; show undef = gv (true) _; rw [h]; rfl) ?_
                  intro hc f w' hG hfr hp Kx hK
                  have g163 : f 163 = gv (true) (.pointer (some ⟨gL, K * 10, none⟩)) := hp 9 _ 163 rfl rfl (by kernel_rfl)
                  clear hfr hp
                  simp only [gv_true, gv_false, Bool.not_false, Bool.not_true, Bool.and_true, Bool.true_and] at g163
                  have hrow := (HCW.out _ hG).2.2.1
                  have f0 : w'.cell? ⟨gL, K * 10, none⟩ = some (.int .i64 r1) := hrow 0 _ rfl
                  have f1 : w'.cell? ⟨gL, K * 10 + 1, none⟩ = some (.int .i64 r2) := hrow 1 _ rfl
                  have f2 : w'.cell? ⟨gL, K * 10 + 1 + 1, none⟩ = some (.int .i64 r3) := hrow 2 _ rfl
                  have f3 : w'.cell? ⟨gL, K * 10 + 1 + 1 + 1, none⟩ = some (.int .i64 r4) := hrow 3 _ rfl
                  have f4 : w'.cell? ⟨gL, K * 10 + 1 + 1 + 1 + 1, none⟩ = some (.int .i64 r5) := hrow 4 _ rfl
                  have f5 : w'.cell? ⟨gL, K * 10 + 1 + 1 + 1 + 1 + 1, none⟩ = some (.int .i64 r6) := hrow 5 _ rfl
                  have f6 : w'.cell? ⟨gL, K * 10 + 1 + 1 + 1 + 1 + 1 + 1, none⟩ = some (.string r7) := hrow 6 _ rfl
                  have f7 : w'.cell? ⟨gL, K * 10 + 1 + 1 + 1 + 1 + 1 + 1 + 1, none⟩ = some (.string r8) := hrow 7 _ rfl
                  have f8 : w'.cell? ⟨gL, K * 10 + 1 + 1 + 1 + 1 + 1 + 1 + 1 + 1, none⟩ = some (.string r9) := hrow 8 _ rfl
                  have f9 : w'.cell? ⟨gL, K * 10 + 1 + 1 + 1 + 1 + 1 + 1 + 1 + 1 + 1, none⟩ = some (.slice pa ql pc) := hrow 9 _ rfl
                  clear hrow
                  go_simp
                  exact hK _ _ rfl hG (Below.refl _ _)
                · refine StepAt.guarded 2 156 false _ rfl rfl rfl (by decide) (by kernel_rfl) (true) (by intro w v h; (have h : v = .bool false := h); rw [h]; (simp [gv, undef])) (by intro h w; show undef = gv (true) _; rw [h]; rfl) ?_
                  intro hc f w' hG hfr hp Kx hK
                  have g157 : f 157 = gv (true) (.agg #[.int .i64 r1, .int .i64 r2, .int .i64 r3, .int .i64 r4, .int .i64 r5, .int .i64 r6, .string r7, .string r8, .string r9, .slice qa ql qc]) := hp 3 _ 157 rfl rfl (by kernel_rfl)
                  have g164 : f 164 = gv (true) (.agg #[.int .i64 r1, .int .i64 r2, .int .i64 r3, .int .i64 r4, .int .i64 r5, .int .i64 r6, .string r7, .string r8, .string r9, .slice pa ql pc]) := hp 10 _ 164 rfl rfl (by kernel_rfl)
                  clear hfr hp
                  simp only [gv_true, gv_false, Bool.not_false, Bool.not_true, Bool.and_true, Bool.true_and] at g157 g164
                  go_simp
                  refine (HSM.out _ hG).mono ?_
                  rintro e w2 ⟨rfl, hb⟩
                  exact hK _ _ rfl (Below.trans hG (Below.mono hb hG.size)) (Below.mono hb hG.size)
                · refine StepAt.guarded 2 156 false _ rfl rfl rfl (by decide) (by kernel_rfl) (true) (by intro w v h; (have h : v = .bool false := h); rw [h]; (simp [gv, undef])) (by intro h w; show undef = gv (true) _; rw [h]; rfl) ?_
                  intro hc f w' hG hfr hp Kx hK
                  have g165 : f 165 = gv (true) (.bool true) := hp 11 _ 165 rfl rfl (by kernel_rfl)
                  clear hfr hp
                  simp only [gv_true, gv_false, Bool.not_false, Bool.not_true, Bool.and_true, Bool.true_and] at g165
                  go_simp
                  exact hK _ _ rfl hG (Below.refl _ _)
                · refine StepAt.plain rfl ?_
                  intro f w' hG hfr hp Kx hK
                  have g156 : f 156 = .bool false := hp 2 _ 156 rfl rfl (by kernel_rfl)
                  have g166 : f 166 = gv (true) (.bool false) := hp 12 _ 166 rfl rfl (by kernel_rfl)
                  clear hfr hp
                  simp only [gv_true, gv_false] at g166
                  go_simp
                  exact hK _ _ rfl hG (Below.refl _ _)
                · refine StepAt.plain rfl ?_
                  intro f w' hG hfr hp Kx hK
                  have g167 : f 167 = .bool false := hp 13 _ 167 rfl rfl (by kernel_rfl)
                  clear hfr hp
                  go_simp
                  exact hK _ _ rfl hG (Below.refl _ _)
                · refine StepAt.guarded 14 168 false _ rfl rfl rfl (by decide) (by kernel_rfl) (true) (by intro w v h; (have h : v = .bool false := h); rw [h]; (simp [gv, undef])) (by intro h w; show undef = gv (true) _; rw [h]; rfl) ?_
                  intro hc f w' hG hfr hp Kx hK
                  have g6 : f 6 = .pointer (some ⟨tb, 0, none⟩) := hfr 6 (by kernel_rfl)
                  clear hfr hp
                  go_simp
                  exact hK _ _ rfl hG (Below.refl _ _)
                · refine StepAt.guarded 14 168 false _ rfl rfl rfl (by decide) (by kernel_rfl) (true) (by intro w v h; (have h : v = .bool false := h); rw [h]; (simp [gv, undef])) (by intro h w; show undef = gv (true) _; rw [h]; rfl) ?_
                  intro hc f w' hG hfr hp Kx hK
                  have g10 : f 10 = .pointer (some ⟨BX, 0, none⟩) := hfr 10 (by kernel_rfl)
                  clear hfr hp
                  go_simp
                  exact hK _ _ rfl hG (Below.refl _ _)
                · refine StepAt.guarded 14 168 false _ rfl rfl rfl (by decide) (by kernel_rfl) (true) (by intro w v h; (have h : v = .bool false := h); rw [h]; (simp [gv, undef])) (by intro h w; show undef = gv (true) _; rw [h]; rfl) ?_
                  intro hc f w' hG hfr hp Kx hK
                  have g170 : f 170 = gv (true) (.pointer (some ⟨BX, 1, none⟩)) := hp 16 _ 170 rfl rfl (by kernel_rfl)
                  clear hfr hp
                  simp only [gv_true, gv_false, Bool.not_false, Bool.not_true, Bool.and_true, Bool.true_and] at g170
                  have hkq := (HCW.out _ hG).2.2.2
                  go_simp
                  exact hK _ _ rfl hG (Below.refl _ _)
                · refine StepAt.guarded 14 168 false _ rfl rfl rfl (by decide) (by kernel_rfl) (true) (by intro w v h; (have h : v = .bool false := h); rw [h]; (simp [gv, undef])) (by intro h w; show undef = gv (true) _; rw [h]; rfl) ?_
                  intro hc f w' hG hfr hp Kx hK
                  have g169 : f 169 = gv (true) (.pointer (some ⟨tb, 0, none⟩)) := hp 15 _ 169 rfl rfl (by kernel_rfl)
                  have g171 : f 171 = gv (true) (.int .i64 xn) := hp 17 _ 171 rfl rfl (by kernel_rfl)
                  clear hfr hp
                  simp only [gv_true, gv_false, Bool.not_false, Bool.not_true, Bool.and_true, Bool.true_and] at g169 g171
                  go_simp
                  refine (HSZ.out _ hG).mono ?_
                  rintro e w2 ⟨rfl, hb⟩
                  exact hK _ _ rfl (Below.trans hG (Below.mono hb hG.size)) (Below.mono hb hG.size)
                · refine StepAt.guarded 14 168 false _ rfl rfl rfl (by decide) (by kernel_rfl) (true) (by intro w v h; (have h : v = .bool false := h); rw [h]; (simp [gv, undef])) (by intro h w; show undef = gv (true) _; rw [h]; rfl) ?_
                  intro hc f w' hG hfr hp Kx hK
                  have g18 : f 18 = .pointer (some ⟨bm, 0, none⟩) := hfr 18 (by kernel_rfl)
                  clear hfr hp
                  have hbq := (HCW.out _ hG).1
                  go_simp
                  exact hK _ _ rfl hG (Below.refl _ _)
                · refine StepAt.guarded 14 168 false _ rfl rfl rfl (by decide) (by kernel_rfl) (true) (by intro w v h; (have h : v = .bool false := h); rw [h]; (simp [gv, undef])) (by intro h w; show undef = gv (true) _; rw [h]; rfl) ?_
                  intro hc f w' hG hfr hp Kx hK
                  have g173 : f 173 = gv (true) (.agg #[.int .i64 r1, .int .i64 r2, .int .i64 r3, .int .i64 r4, .int .i64 r5, .int .i64 r6, .string r7, .string r8, .string r9, .slice qa ql qc]) := hp 19 _ 173 rfl rfl (by kernel_rfl)
                  clear hfr hp
                  simp only [gv_true, gv_false, Bool.not_false, Bool.not_true, Bool.and_true, Bool.true_and] at g173
                  go_simp
                  refine (HPU.out _ hG).mono ?_
                  rintro e w2 ⟨rfl, hb⟩
                  exact hK _ _ rfl (Below.trans hG (Below.mono hb hG.size)) (Below.mono hb hG.size)
                · refine StepAt.guarded 14 168 false _ rfl rfl rfl (by decide) (by kernel_rfl) (true) (by intro w v h; (have h : v = .bool false := h); rw [h]; (simp [gv, undef])) (by intro h w; show undef = gv (true) _; rw [h]; rfl) ?_
                  intro hc f w' hG hfr hp Kx hK
                  have g174 : f 174 = gv (true) (.string PB) := hp 20 _ 174 rfl rfl (by kernel_rfl)
                  clear hfr hp
                  simp only [gv_true, gv_false, Bool.not_false, Bool.not_true, Bool.and_true, Bool.true_and] at g174
                  have hps := HPS.out
                  go_simp
                  exact hK _ _ rfl hG (Below.refl _ _)
                · refine StepAt.guarded 14 168 false _ rfl rfl rfl (by decide) (by kernel_rfl) (true) (by intro w v h; (have h : v = .bool false := h); rw [h]; (simp [gv, undef])) (by intro h w; show undef = gv (true) _; rw [h]; rfl) ?_
                  intro hc f w' hG hfr hp Kx hK
                  have g172 : f 172 = gv (true) (.int .i64 (ps : Int)) := hp 18 _ 172 rfl rfl (by kernel_rfl)
                  have g175 : f 175 = gv (true) (.int .i64 (ps : Int)) := hp 21 _ 175 rfl rfl (by kernel_rfl)
                  clear hfr hp
                  simp only [gv_true, gv_false, Bool.not_false, Bool.not_true, Bool.and_true, Bool.true_and] at g172 g175
                  go_simp
                  exact hK _ _ rfl hG (Below.refl _ _)
                · refine StepAt.plain rfl ?_
                  intro f w' hG hfr hp Kx hK
                  have g168 : f 168 = .bool false := hp 14 _ 168 rfl rfl (by kernel_rfl)
                  have g176 : f 176 = gv (true) (.bool false) := hp 22 _ 176 rfl rfl (by kernel_rfl)
                  clear hfr hp
                  simp only [gv_true, gv_false] at g176
                  go_simp
                  exact hK _ _ rfl hG (Below.refl _ _)
              · intro fz wz hG hfr hR
                have g177 : fz 177 = .bool false := hR 23 _ 177 rfl rfl
                have HG9 := Lib.hid hG
                clear hR hG
                have hback := fr_back (n := 262) (f := fz) (D := [154, 155, 156, 157, 158, 159, 160, 161, 162, 163, 164, 165, 166, 167, 168, 169, 170, 171, 172, 173, 174, 175, 176, 177]) rfl (by kernel_rfl) hfr
                rw [hback]
                simp only [mixL, List.elem_eq_contains, List.contains_cons, List.contains_nil, Nat.reduceBEq, Nat.reduceAdd, Bool.or_false, Bool.or_true, Bool.false_or, Bool.true_or, cond_false, cond_true, Bool.or_self, Nat.zero_add]
                clear hback hfr
                rw [g177]
                have hbz := HG9.out
                have HIZ := Lib.hid (HIQ.out.new (below_chg hbz))
                have HOZ : Hid (BoxO wz BX #[.int .i64 3, .int .i64 xn, .int .i64 m1, .int .i64 m2, .int .i64 m3, .int .i64 m4, .int .i64 m5, .int .i64 m6, .string m7, .string m8, .string m9, .slice ka kl kc]) := Lib.hid ((below_chg hbz).heap HOQ.out (fun e => e))
                clear hbz
                go_wp2_with fail
                go_meet
                case rel => exact ⟨_, rfl, ⟨_, _, _, _, _, _, _, _, _, _, _, _, HIZ.out.more⟩, HOZ.out⟩
        by_cases e4 : xk = 4
        · as_aux_lemma =>
            subst e4
            have HOP := Lib.hid (HI1.out.open_ hk80 HTB.out)
            go_wp2_with fail
            refine HOP.out.mono ?_
            rintro e wA ⟨tb2, rfl, hkp, t', g', st', m', j', hJ, hsy⟩
            have HOA : Hid (BoxO wA BX #[.int .i64 4, .int .i64 xn, .int .i64 m1, .int .i64 m2, .int .i64 m3, .int .i64 m4, .int .i64 m5, .int .i64 m6, .string m7, .string m8, .string m9, .slice ka kl kc]) := Lib.hid ((hkp BX (Array.getElem?_eq_some_iff.1 HO1.out).1 HOF.out.1).trans HO1.out)
            have HJ := Lib.hid hJ
            have h1 := tsynced_any hJ.two.ti.tg
            have h2 := tend_any hJ.two.ti.tg
            rw [hsy] at h1
            rw [hJ.two.ti.rc.row.end_, ← hJ.bs] at h2
            have H1 := Lib.hid h1
            have H2 := Lib.hid h2
            clear hkx hkp hJ hsy h1 h2
            go_wp2_with fail
            refine H1.out.mono ?_
            rintro e wB ⟨rfl, rfl⟩
            go_wp2_with fail
            refine H2.out.mono ?_
            rintro e wB ⟨rfl, rfl⟩
            go_wp2_with fail
            go_meet
            case rel => exact ⟨_, rfl, ⟨_, _, _, _, _, _, _, _, _, _, _, _, HJ.out.more⟩, HOA.out⟩
        go_wp2_with fail
        go_meet
        case rel => exact ⟨_, rfl, ⟨_, _, _, _, _, _, _, _, _, _, _, _, HI1.out.more⟩, HO1.out⟩
      case rest =>
        as_aux_lemma =>
          clear HCP HFN HSW HI1 HO1 HI
          obtain ⟨tb2, rfl, ⟨t', g', st', m', i1, j', l', B', vI', ids', vL', Ms', hJ⟩, hO⟩ := hcut
          have HJ := Lib.hid hJ
          have HOX := Lib.hid hO
          have hkx := hO.cell
          have HHS := Lib.hid (thas_any hJ.two hJ.bs hJ.his hJ.strs (by have := hJ.il; omega) (by have := hJ.ml; omega) (by have := hJ.len; omega))
          obtain ⟨F, hF⟩ : ∃ F, F = t'.ids.drop (lowN t'.ids xn) := ⟨_, rfl⟩
          have htl := hJ.tl
          have hFl : F.length ≤ 1000 := by rw [hF, List.length_drop]; omega
          have hso := le_of_lt' hJ.two.ti.sorted
          have HFR : Hid (∀ W, Chg (fun _ => False) wc W → Calls Tryz.prog 25 #[.pointer (some ⟨rb, 0, none⟩), .int .i64 xn] W (FromR W F)) := Lib.hid (fun W hW => by
            have := rfrom_any (hJ.new hW).two.rf.ref (by have := hJ.il; omega) xn
            rw [hJ.his.from_ hJ.two.ti.la', ← hJ.two.ti.tn.ids, ← hF] at this
            exact this)
          have HNX : Hid (∀ W, Chg (fun _ => False) wc W → Calls Tryz.prog 26 #[.pointer (some ⟨tb2, 0, none⟩), .int .i64 xn] W fun e w' => e = .returned (.tuple #[.int .i64 (F.getD 0 0), .bool (!F.isEmpty)]) ∧ Below W.heap.size W w') := Lib.hid (fun W hW => by
            have := tnext_any (hJ.new hW).two.ti.tg.tape hso (by omega) xn
            rw [← hF] at this
            exact this.mono fun e w' ⟨x, q, y⟩ => ⟨x, y ▸ below_drewN (Below.refl _ _) q⟩)
          have HID : Hid (∀ W, Chg (fun _ => False) wc W → Calls Tryz.prog 28 #[.pointer (some ⟨tb2, 0, none⟩), .int .i64 xn] W (IntsTo W F)) := Lib.hid (fun W hW => by
            have := tids_any (hJ.new hW).two.ti.tg.tape hso (by omega) xn
            rw [← hF] at this
            exact this)
          have HFL : Hid (F.length ≤ 1000000) := Lib.hid (by omega)
          obtain ⟨fl, hfl⟩ : ∃ fl, fl = F.length := ⟨_, rfl⟩
          obtain ⟨x0, hx0⟩ : ∃ x, x = F.getD 0 0 := ⟨_, rfl⟩
          obtain ⟨nb, hnb⟩ : ∃ b, b = !F.isEmpty := ⟨_, rfl⟩
          rw [← hx0, ← hnb] at HNX
          have HFLE := Lib.hid hfl
          have HX0 := Lib.hid hx0
          have HNB : Hid ((nb = true ∧ 0 < fl) ∨ (nb = false ∧ fl = 0)) := Lib.hid (by
            rw [hnb, hfl]
            cases F with
            | nil => exact .inr ⟨rfl, rfl⟩
            | cons y F => exact .inl ⟨rfl, by simp⟩)
          have hfl1 : fl ≤ 1000 := by omega
          clear hJ hO hF htl hFl hso hfl hx0 hnb
          go_wp2_with fail
          refine HHS.out.mono ?_
          rintro e wA ⟨rfl, hbA⟩
          have HCA := Lib.hid (below_chg hbA)
          have HOA : Hid (BoxO wA BX #[.int .i64 xk, .int .i64 xn, .int .i64 m1, .int .i64 m2, .int .i64 m3, .int .i64 m4, .int .i64 m5, .int .i64 m6, .string m7, .string m8, .string m9, .slice ka kl kc]) := Lib.hid ((below_chg hbA).heap HOX.out (fun e => e))
          clear hkx hbA
          have hkx := HOA.out.cell
          go_wp2_with fail
          refine (HFR.out wA HCA.out).mono ?_
          rintro e wB ⟨v', rfl, ho, hbB⟩
          have hi1 := uints_of_own ho
          obtain ⟨pa, pc, hv'⟩ := ints_form hi1
          rw [← HFLE.out] at hv'
          subst hv'
          have HIU := Lib.hid hi1
          have HCB := Lib.hid (HCA.out.trans (below_chg hbB) (fun _ _ e => e))
          have HOB : Hid (BoxO wB BX #[.int .i64 xk, .int .i64 xn, .int .i64 m1, .int .i64 m2, .int .i64 m3, .int .i64 m4, .int .i64 m5, .int .i64 m6, .string m7, .string m8, .string m9, .slice ka kl kc]) := Lib.hid ((below_chg hbB).heap HOA.out (fun e => e))
          clear hkx hbB hi1 ho
          have hkx := HOB.out.cell
          go_wp2_with fail
          refine (HNX.out wB HCB.out).mono ?_
          rintro e wC ⟨rfl, hbC⟩
          have HCC := Lib.hid (HCB.out.trans (below_chg hbC) (fun _ _ e => e))
          have HOC : Hid (BoxO wC BX #[.int .i64 xk, .int .i64 xn, .int .i64 m1, .int .i64 m2, .int .i64 m3, .int .i64 m4, .int .i64 m5, .int .i64 m6, .string m7, .string m8, .string m9, .slice ka kl kc]) := Lib.hid ((below_chg hbC).heap HOB.out (fun e => e))
          have HIV := Lib.hid (ints_new HIU.out (below_chg hbC))
          clear hkx hbC
          have hkx := HOC.out.cell
          go_wp2_with fail
          refine (HID.out wC HCC.out).mono ?_
          rintro e wD ⟨v4, rfl, ho4, hbD⟩
          have hi4 := ints_of_row ho4
          obtain ⟨a4, c4, rfl⟩ := ints_form hi4
          rw [← HFLE.out] at hi4 ⊢
          have HIW := Lib.hid (ints_new HIV.out (below_chg hbD))
          have hIN := ints_any _ _ F F wD hi4 HIW.out HFL.out
          rw [decide_eq_true rfl] at hIN
          have HIN := Lib.hid hIN
          have HCD := Lib.hid (HCC.out.trans (below_chg hbD) (fun _ _ e => e))
          clear hkx hbD ho4 hi4 hIN
          go_wp2_with fail
          refine HIN.out.mono ?_
          rintro e wE ⟨rfl, q, rfl⟩
          have HJE := Lib.hid (HJ.out.new (HCD.out.trans ((Chg.refl (fun _ => False) wD).drewN q) (fun _ _ e => e)))
          have HIX : Hid (Ints (wD.drewN q) (.slice pa fl pc) F) := Lib.hid (ints_new HIW.out ((Chg.refl _ _).drewN q))
          generalize wD.drewN q = wE at *
          rcases HNB.out with ⟨rfl, hf0⟩ | ⟨rfl, rfl⟩
          · obtain ⟨ib, io, hab, hck⟩ := ints_cell (k := 0) HIX.out (by rw [← HFLE.out]; exact hf0)
            rw [← HX0.out, Nat.add_zero] at hck
            subst hab
            have hd0 : decide ((0 : Int) < (fl : Int)) = true := decide_eq_true (by omega)
            go_wp2_with fail
            exact ⟨⟨k + 1, tb2, by omega, by go_num, rfl, _, _, _, _, _, _, _, _, _, _, _, _, HJE.out⟩, by simp [intOf]; omega⟩
          · go_wp2_with fail
            exact ⟨⟨k + 1, tb2, by omega, by go_num, rfl, _, _, _, _, _, _, _, _, _, _, _, _, HJE.out⟩, by simp [intOf]; omega⟩
    · go_wp2_with fail
      go_ret
      exact ⟨rfl, chg_below HI.out.two.ti.tg.row.chg⟩
end Go.Proofs.YtccfkhlcnpfkiaaGreatDoor
