/- A part. -/
import Derived.Test.YtdnhgodfmjapmaaGreatDoorDon21
import Derived.Test.YtdnhgodfmjapmaaGreatDoorDon32
import Derived.Test.YtdnhgodfmjapmaaGreatDoorDon44
set_option linter.unusedVariables false
set_option linter.unusedSimpArgs false
namespace Go.Proofs.YtdnhgodfmjapmaaGreatDoor
open Go.RowKit Go.Deep
theorem RowC.keep {n n' : Nat} {m : RowM} {st st' : St} {z i0 j : Nat} {all : List UInt8} (h : RowC n m st z i0 j all) (hc : Calm n' st') (hnm : ∀ p ∈ st'.fs, p.1.size ≤ 1048576) {head : ByteArray} (ho : Others head st st')
    (hu : ∀ nm : ByteArray, Lib.hasPrefix nm.data.toList m.head.data.toList = true → Lib.hasPrefix nm.data.toList head.data.toList = false) : RowC n' m st' z i0 j all := by
  have hf : ∀ nm : ByteArray, Lib.hasPrefix nm.data.toList m.head.data.toList = true → st'.find nm = st.find nm := fun nm hp => ho nm (hu nm hp)
  refine ⟨(h.row.keep (n' := n') hc (fun nm hp => ?_) (fun i _ _ => ?_)), fun i h1 h2 => ?_, h.tight, hnm⟩
  · rw [has_find, has_find, hf nm hp]
  · unfold St.len
    rw [hf _ (nameB_pre _ _)]
  · rw [hf _ (nameB_pre _ _)]
    exact h.ch i h1 h2
theorem rowC_fresh {n : Nat} {st : St} (head : ByteArray) (z : Nat) (hc : Calm n st) (hnm : ∀ p ∈ st.fs, p.1.size ≤ 1048576) (hh : head.size ≤ 100) (h1 : 16 ≤ z) (h2 : z ≤ 4096) (hno : ∀ p ∈ st.fs, Lib.hasPrefix p.1.data.toList head.data.toList = false) : RowC n (newRow head (z : Int)) st z 0 0 [] := by
  have hm : (newRow head (z : Int)).head = head := rfl
  refine ⟨⟨hc, hh, rfl, h1, h2, ?_, ?_, ?_, Nat.le_refl _, by omega, by omega, by simp, by simp, fun nm => ?_, fun i a b => by omega, fun _ => rfl, ⟨0, ?_, Nat.le_refl _, by omega⟩⟩, fun i a b => by omega, fun hx => by omega, hnm⟩
  · show (0 : Int) = _; simp
  · show (0 : Int) = _; simp
  · show (0 : Int) = _; simp
  · rw [hm, plS_done _ _ _ (by omega)]
    constructor
    · rintro ⟨a, b⟩
      obtain ⟨p, hp, rfl⟩ := List.mem_map.1 a
      rw [hno p hp] at b
      cases b
    · rintro ⟨p, hp, _⟩
      cases hp
  · show (0 : Int) = _; simp
structure LnM where
  lb : Nat
  base : Nat
  least : Nat
  es : List PlM
  row : Option Nat
  lo : Nat
def LnM.cells (x : LnM) : Array Value := #[optV x.row, .int .i64 x.base, .int .i64 x.least]
def LnM.foot (x : LnM) : List Nat := x.lb :: x.row.toList
def hdQ (k : QK) : ByteArray := headQ k.1.1 k.1.2.toNat
structure RwOk (w0 w : World) (g : Gh) (st : St) (n : Nat) (k : QK) (x : LnM) (r : Nat) (m : RowM) (i0 j : Nat) : Prop where
  rg : RowG w0 w r g st m
  rc : RowC n m st 200 i0 j (bytesE (x.es.drop (10 * i0)))
  hd : m.head = hdQ k
  lo : x.base + 10 * i0 ≤ x.lo
structure LnOk (w0 w : World) (g : Gh) (st : St) (n : Nat) (k : QK) (x : LnM) : Prop where
  at_ : w.heap[x.lb]? = some (.cells x.cells 145 (0, 0))
  le : x.base ≤ x.least
  lt : x.least ≤ x.base + x.es.length
  lo : x.lo ≤ x.base + x.es.length
  lob : x.base ≤ x.lo
  top : topicB k.1.1 = true
  qn : 0 ≤ k.1.2 ∧ k.1.2 ≤ 2
  bb : x.base ≤ 1099511627776
  el : x.es.length ≤ n
  fit : ∀ p ∈ x.es, p.fit = true
  none : x.row = none → x.es = []
  row : ∀ r, x.row = some r → ∃ m i0 j, RwOk w0 w g st n k x r m i0 j
def qfoot (qb : Nat) (mv : Option Nat) (L : List (QK × LnM)) : List Nat := qb :: (mv.toList ++ L.flatMap fun p => p.2.foot)
def qHead : List UInt8 := [113, 45]
structure QsL (w0 w : World) (qb : Nat) (mv : Option Nat) (g : Gh) (st : St) (n : Nat) (L : List (QK × LnM)) : Prop where
  disk : DiskG w0 w g.d g st
  tab : Tab10 w0
  calm : Calm n st
  nm : ∀ p ∈ st.fs, p.1.size ≤ 1048576
  at_ : w.heap[qb]? = some (.cells #[.pointer (some ⟨g.d, 0, none⟩), .map mv] 124 (0, 0))
  keys : (L.map (·.1)).Nodup
  ln : ∀ p ∈ L, LnOk w0 w g st n p.1 p.2
  apart : (qfoot qb mv L).Nodup
  low : ∀ q ∈ qfoot qb mv L, w0.heap.size ≤ q
  lt : ∀ q ∈ qfoot qb mv L, q < w.heap.size
  out : ∀ q ∈ qfoot qb mv L, q ∉ g.fp
  files : ∀ f ∈ st.fs, Lib.hasPrefix f.1.data.toList qHead = true → ∃ p ∈ L, p.2.row.isSome = true ∧ Lib.hasPrefix f.1.data.toList (hdQ p.1).data.toList = true
def MapIs (w : World) (mv : Option Nat) (L : List (QK × Nat)) : Prop := match mv with
  | none => L = []
  | some mb => MapK qK lnEl w mb (L.map fun p => (p.1, some p.2))
def lbs (L : List (QK × LnM)) : List (QK × Nat) := L.map fun p => (p.1, p.2.lb)
structure QsI (w0 w : World) (qb : Nat) (mv : Option Nat) (g : Gh) (st : St) (n : Nat) (L : List (QK × LnM)) : Prop where
  q : QsL w0 w qb mv g st n L
  map : MapIs w mv (lbs L)
  lo : ∀ p ∈ L, p.2.lo ≤ p.2.least
theorem topic_q {k : QK} (ht : topicB k.1.1 = true) (hq : 0 ≤ k.1.2 ∧ k.1.2 ≤ 2) : 46 ∉ k.1.1.data.toList ∧ k.1.2.toNat < 10 ∧ (hdQ k).size ≤ 21 ∧ ((k.1.2.toNat : Nat) : Int) = k.1.2 := by
  obtain ⟨h1, h2⟩ := topic_small ht
  refine ⟨h1, by omega, ?_, by omega⟩
  unfold hdQ
  rw [headQ_size]
  omega
theorem hd_unlike {k k' : QK} (ht : topicB k.1.1 = true) (hq : 0 ≤ k.1.2 ∧ k.1.2 ≤ 2) (ht' : topicB k'.1.1 = true) (hq' : 0 ≤ k'.1.2 ∧ k'.1.2 ≤ 2) (hne : k ≠ k') {nm : ByteArray} (h : Lib.hasPrefix nm.data.toList (hdQ k).data.toList = true) : Lib.hasPrefix nm.data.toList (hdQ k').data.toList = false := by
  obtain ⟨a1, a2, a3, a4⟩ := topic_q ht hq
  obtain ⟨b1, b2, b3, b4⟩ := topic_q ht' hq'
  refine heads_unlike a1 b1 a2 b2 (fun hx => hne ?_) h
  refine Subtype.ext (Prod.ext hx.1 ?_)
  rw [← a4, ← b4, hx.2]
theorem hd_pre (k : QK) {nm : ByteArray} (h : Lib.hasPrefix nm.data.toList (hdQ k).data.toList = true) : Lib.hasPrefix nm.data.toList qHead = true := by
  obtain ⟨r, hr⟩ := prefix_app h
  unfold Lib.hasPrefix
  rw [hr]
  unfold hdQ
  rw [headQ_data]
  rfl
theorem mem_qfoot_lb {qb : Nat} {mv : Option Nat} {L : List (QK × LnM)} {p : QK × LnM} (hp : p ∈ L) : p.2.lb ∈ qfoot qb mv L := List.mem_cons_of_mem _ (List.mem_append_right _ (List.mem_flatMap.2 ⟨p, hp, List.mem_cons_self ..⟩))
theorem mem_qfoot_row {qb : Nat} {mv : Option Nat} {L : List (QK × LnM)} {p : QK × LnM} (hp : p ∈ L) {r : Nat} (hr : p.2.row = some r) : r ∈ qfoot qb mv L := List.mem_cons_of_mem _ (List.mem_append_right _ (List.mem_flatMap.2 ⟨p, hp, by unfold LnM.foot; rw [hr]; simp⟩))
theorem mem_qfoot_q (qb : Nat) (mv : Option Nat) (L : List (QK × LnM)) : qb ∈ qfoot qb mv L := List.mem_cons_self ..
theorem mem_qfoot_mv {qb mb : Nat} {mv : Option Nat} {L : List (QK × LnM)} (h : mv = some mb) : mb ∈ qfoot qb mv L := by subst h; simp [qfoot]
theorem RwOk.new {w0 w w' : World} {g : Gh} {st : St} {n : Nat} {k : QK} {x : LnM} {r : Nat} {m : RowM} {i0 j : Nat} (h : RwOk w0 w g st n k x r m i0 j) (hc : Chg (fun _ => False) w w') : RwOk w0 w' g st n k x r m i0 j := { h with rg := h.rg.new hc }
theorem LnOk.new {w0 w w' : World} {g : Gh} {st : St} {n : Nat} {k : QK} {x : LnM} (h : LnOk w0 w g st n k x) (hc : Chg (fun _ => False) w w') : LnOk w0 w' g st n k x :=
  { h with at_ := hc.heap h.at_ (fun x => x), row := fun r hr => by obtain ⟨m, i0, j, h1⟩ := h.row r hr; exact ⟨m, i0, j, h1.new hc⟩ }
theorem QsL.new {w0 w w' : World} {qb : Nat} {mv : Option Nat} {g : Gh} {st : St} {n : Nat} {L : List (QK × LnM)} (h : QsL w0 w qb mv g st n L) (hc : Chg (fun _ => False) w w') : QsL w0 w' qb mv g st n L :=
  { h with disk := h.disk.new hc, at_ := hc.heap h.at_ (fun x => x), ln := fun p hp => (h.ln p hp).new hc, lt := fun q hq => Nat.lt_of_lt_of_le (h.lt q hq) hc.size }
theorem MapIs.keep {w w' : World} {mv : Option Nat} {L : List (QK × Nat)} (h : MapIs w mv L) (hk : ∀ mb, mv = some mb → w'.heap[mb]? = w.heap[mb]?) : MapIs w' mv L := by
  unfold MapIs at *
  cases mv with
  | none => exact h
  | some mb => exact MapK.heap h (hk mb rfl)
theorem MapIs.lt {w : World} {mb : Nat} {L : List (QK × Nat)} (h : MapIs w (some mb) L) : mb < w.heap.size := MapK.lt (K := qK) (E := lnEl) h
theorem MapIs.new {w w' : World} {mv : Option Nat} {L : List (QK × Nat)} (h : MapIs w mv L) (hc : Chg (fun _ => False) w w') : MapIs w' mv L := h.keep (fun mb hm => by subst hm; exact hc.block _ (MapIs.lt h) (fun x => x))
theorem QsI.new {w0 w w' : World} {qb : Nat} {mv : Option Nat} {g : Gh} {st : St} {n : Nat} {L : List (QK × LnM)} (h : QsI w0 w qb mv g st n L) (hc : Chg (fun _ => False) w w') : QsI w0 w' qb mv g st n L := ⟨h.q.new hc, h.map.new hc, h.lo⟩
theorem qfoot_perm {qb : Nat} {mv : Option Nat} {L L' : List (QK × LnM)} (hp : L.Perm L') : (qfoot qb mv L).Perm (qfoot qb mv L') := (List.Perm.append_left _ (hp.flatMap_right _)).cons _
theorem QsL.perm {w0 w : World} {qb : Nat} {mv : Option Nat} {g : Gh} {st : St} {n : Nat} {L L' : List (QK × LnM)} (h : QsL w0 w qb mv g st n L) (hp : L.Perm L') : QsL w0 w qb mv g st n L' := by
  have hq := qfoot_perm (qb := qb) (mv := mv) hp
  exact { h with keys := ((hp.map _).nodup_iff).1 h.keys, ln := fun p hp' => h.ln p (hp.mem_iff.2 hp'), apart := hq.nodup_iff.1 h.apart, low := fun q hx => h.low q (hq.mem_iff.2 hx), lt := fun q hx => h.lt q (hq.mem_iff.2 hx), out := fun q hx => h.out q (hq.mem_iff.2 hx), files := fun f hf hh => by obtain ⟨p, hp', hx⟩ := h.files f hf hh; exact ⟨p, hp.mem_iff.1 hp', hx⟩ }
theorem focus_perm {β : Type} {L : List (QK × β)} {k : QK} {x : β} (hn : (L.map (·.1)).Nodup) (h : getK L k = some x) : L.Perm (dropK L k ++ [(k, x)]) := by
  have hm := getK_mem h
  obtain ⟨a, b, rfl⟩ := List.append_of_mem hm
  have e : ∀ l : List (QK × β), (∀ p ∈ l, p.1 ≠ k) → dropK l k = l := fun l hl => List.filter_eq_self.2 fun p hp => by simp [hl p hp]
  rw [List.map_append, List.map_cons, List.nodup_append] at hn
  have h1 : ∀ p ∈ a, p.1 ≠ k := fun p hp hx => hn.2.2 _ (List.mem_map_of_mem (f := fun p : QK × β => p.1) hp) _ (List.mem_cons_self ..) hx
  have h2 : ∀ p ∈ b, p.1 ≠ k := fun p hp hx => (List.nodup_cons.1 hn.2.1).1 (List.mem_map.2 ⟨p, hp, hx⟩)
  have e2 : dropK (a ++ (k, x) :: b) k = a ++ b := by
    have ea := e a h1
    have eb := e b h2
    unfold dropK at *
    rw [List.filter_append, List.filter_cons, ea, eb]
    simp
  rw [e2]
  exact (List.perm_middle (a := (k, x)) (l₁ := a) (l₂ := b)).trans (List.perm_append_singleton (k, x) (a ++ b)).symm
theorem dropK_ne {β : Type} {L : List (QK × β)} {k : QK} : ∀ p ∈ dropK L k, p.1 ≠ k := fun p hp => by
  have := (List.mem_filter.1 hp).2
  simpa using this
theorem QsL.step {w0 w w' : World} {qb : Nat} {mv : Option Nat} {g g' : Gh} {st st' : St} {n n' : Nat} {D : List (QK × LnM)} {k : QK} {x x' : LnM} {r : Nat} {m' : RowM} {i0' j' : Nat} (h : QsL w0 w qb mv g st n (D ++ [(k, x)])) (hn : n ≤ n') (hr : x.row = some r)
    (hg : RowG w0 w' r g' st' m') (ht : RowTo w r g g' w') (ho : Others (hdQ k) st st') (hrc : RowC n' m' st' 200 i0' j' (bytesE (x'.es.drop (10 * i0')))) (hd : m'.head = hdQ k)
    (e1 : x'.lb = x.lb) (e2 : x'.base = x.base) (e3 : x'.least = x.least) (e4 : x'.row = x.row) (hlo : x'.base + 10 * i0' ≤ x'.lo) (hlo2 : x'.lo ≤ x'.base + x'.es.length) (hel : x'.es.length ≤ n') (hle : x.es.length ≤ x'.es.length) (hfit : ∀ p ∈ x'.es, p.fit = true) :
    QsL w0 w' qb mv g' st' n' (D ++ [(k, x')]) := by
  have hxm : (k, x) ∈ D ++ [(k, x)] := List.mem_append_right _ (List.mem_singleton.2 rfl)
  have hfe : x'.foot = x.foot := by unfold LnM.foot; rw [e1, e4]
  have hqf : qfoot qb mv (D ++ [(k, x')]) = qfoot qb mv (D ++ [(k, x)]) := by
    unfold qfoot
    rw [List.flatMap_append, List.flatMap_append]
    simp [hfe]
  have hrf : r ∈ qfoot qb mv (D ++ [(k, x)]) := mem_qfoot_row hxm hr
  have hcx : LnOk w0 w g st n k x := h.ln _ hxm
  have hnotS : ∀ q ∈ qfoot qb mv (D ++ [(k, x)]), q ≠ r → ¬ (q = r ∨ q ∈ g.fp) := fun q hq hne hx => hx.elim hne (h.out q hq)
  have hap := h.apart
  have hqr : qb ≠ r := by
    unfold qfoot at hap
    rw [List.nodup_cons] at hap
    intro hx
    refine hap.1 (hx ▸ ?_)
    exact List.mem_append_right _ (List.mem_flatMap.2 ⟨_, hxm, by unfold LnM.foot; rw [hr]; simp⟩)
  have hfl : (D.flatMap (fun p => p.2.foot) ++ x.foot).Nodup := by
    unfold qfoot at hap
    rw [List.nodup_cons, List.nodup_append] at hap
    have := hap.2.2.1
    rw [List.flatMap_append] at this
    simpa using this
  rw [List.nodup_append] at hfl
  have hrx : r ∈ x.foot := by unfold LnM.foot; rw [hr]; simp
  have hlbr : x.lb ≠ r := by
    have := hfl.2.1
    unfold LnM.foot at this
    rw [hr] at this
    intro hx
    simp [hx] at this
  have hDne : ∀ p ∈ D, ∀ q ∈ p.2.foot, q ≠ r := fun p hp q hq hx => hfl.2.2 q (List.mem_flatMap.2 ⟨p, hp, hq⟩) r hrx hx
  have hkeys := h.keys
  rw [List.map_append, List.nodup_append] at hkeys
  have hDk : ∀ p ∈ D, p.1 ≠ k := fun p hp hx => hkeys.2.2 _ (List.mem_map_of_mem (f := fun p : QK × LnM => p.1) hp) k (by simp) hx
  have hout : ∀ q ∈ qfoot qb mv (D ++ [(k, x)]), q ∉ g'.fp := fun q hq hx => by
    rcases ht.fp q hx with h1 | h1
    · exact h.out q hq h1
    · have := h.lt q hq; omega
  refine ⟨⟨hg.disk, rfl, hg.chg, hg.low⟩, h.tab, hrc.row.calm, hrc.nm, ?_, ?_, ?_, by rw [hqf]; exact h.apart, by rw [hqf]; exact h.low, by rw [hqf]; exact fun q hq => Nat.lt_of_lt_of_le (h.lt q hq) ht.chg.size, by rw [hqf]; exact hout, ?_⟩
  · rw [ht.d]
    exact ht.chg.heap h.at_ (hnotS _ (mem_qfoot_q ..) hqr)
  · rw [List.map_append]
    have := h.keys
    rw [List.map_append] at this
    exact this
  · intro p hp
    rcases List.mem_append.1 hp with hp | hp
    · have hpm : p ∈ D ++ [(k, x)] := List.mem_append_left _ hp
      have hl := h.ln p hpm
      refine { hl with at_ := ht.chg.heap hl.at_ (hnotS _ (mem_qfoot_lb hpm) (hDne p hp _ (List.mem_cons_self ..))), el := Nat.le_trans hl.el hn, row := fun r2 hr2 => ?_ }
      obtain ⟨m2, i2, j2, h2⟩ := hl.row r2 hr2
      have hne : r2 ≠ r := hDne p hp r2 (by unfold LnM.foot; rw [hr2]; simp)
      refine ⟨m2, i2, j2, ⟨h2.rg.other hne hg.disk ht hg.chg hg.low, h2.rc.keep hrc.row.calm hrc.nm ho (fun nm hx => ?_), h2.hd, h2.lo⟩⟩
      rw [h2.hd] at hx
      exact hd_unlike hl.top hl.qn hcx.top hcx.qn (hDk p hp) hx
    · rw [List.mem_singleton] at hp
      subst hp
      refine ⟨?_, by show x'.base ≤ x'.least; rw [e2, e3]; exact hcx.le, by show x'.least ≤ x'.base + x'.es.length; have := hcx.lt; omega, hlo2, Nat.le_trans (Nat.le_add_right _ _) hlo, hcx.top, hcx.qn, by show x'.base ≤ _; rw [e2]; exact hcx.bb, hel, hfit, (fun hx => by rw [e4, hr] at hx; cases hx), fun r2 hr2 => ?_⟩
      · have : x'.cells = x.cells := by unfold LnM.cells; rw [e2, e3, e4]
        show w'.heap[x'.lb]? = some (.cells x'.cells _ _)
        rw [this, e1]
        exact ht.chg.heap hcx.at_ (hnotS _ (mem_qfoot_lb hxm) hlbr)
      · have hr2 : x'.row = some r2 := hr2
        rw [e4, hr] at hr2
        cases hr2
        exact ⟨m', i0', j', ⟨hg, hrc, hd, hlo⟩⟩
  · intro f hf hx
    by_cases hk : Lib.hasPrefix f.1.data.toList (hdQ k).data.toList = true
    · exact ⟨(k, x'), List.mem_append_right _ (List.mem_singleton.2 rfl), by rw [e4, hr]; rfl, hk⟩
    · have hk2 : Lib.hasPrefix f.1.data.toList (hdQ k).data.toList = false := by simpa using hk
      have h1 : (st'.find f.1).isSome = true := find_some_mem ⟨f, hf, rfl⟩
      rw [ho _ hk2, ← has_find] at h1
      obtain ⟨f0, hf0, hfe0⟩ := List.mem_map.1 h1
      obtain ⟨p, hp, hps, hpx⟩ := h.files f0 hf0 (by rw [hfe0]; exact hx)
      rw [hfe0] at hpx
      rcases List.mem_append.1 hp with hp | hp
      · exact ⟨p, List.mem_append_left _ hp, hps, hpx⟩
      · rw [List.mem_singleton] at hp
        subst hp
        exact absurd hpx hk
def qAll (qb : Nat) (mv : Option Nat) (L : List (QK × LnM)) (g : Gh) (q : Nat) : Prop := q ∈ qfoot qb mv L ∨ q ∈ g.fp
structure QTo (w : World) (F : Nat → Prop) (w' : World) (F' : Nat → Prop) : Prop where
  chg : Chg F w w'
  new : ∀ q, F' q → F q ∨ w.heap.size ≤ q
theorem QTo.refl (w : World) (F : Nat → Prop) : QTo w F w F := ⟨Chg.refl _ _, fun _ h => .inl h⟩
theorem QTo.trans {w w1 w2 : World} {F F1 F2 : Nat → Prop} (h : QTo w F w1 F1) (k : QTo w1 F1 w2 F2) : QTo w F w2 F2 := by
  have hs := h.chg.size
  refine ⟨h.chg.trans k.chg (fun i hi hx => ?_), fun q hq => ?_⟩
  · rcases h.new i hx with a | a
    · exact a
    · omega
  · rcases k.new q hq with a | a
    · exact h.new q a
    · exact .inr (by omega)
theorem QTo.of_new {w w' : World} {F : Nat → Prop} (hc : Chg (fun _ => False) w w') : QTo w F w' F := ⟨hc.wide (fun _ _ x => x.elim), fun _ h => .inl h⟩
theorem QTo.wide {w w' : World} {F F1 F' F1' : Nat → Prop} (h : QTo w F w' F') (h1 : ∀ q, F q → F1 q) (h2 : ∀ q, F1' q → F' q ∨ F1 q ∨ w.heap.size ≤ q) : QTo w F1 w' F1' :=
  ⟨h.chg.wide (fun _ _ x => h1 _ x), fun q hq => by
    rcases h2 q hq with a | a | a
    · exact (h.new q a).imp (h1 q) id
    · exact .inl a
    · exact .inr a⟩
theorem QsL.lt_all {w0 w : World} {qb : Nat} {mv : Option Nat} {g : Gh} {st : St} {n : Nat} {L : List (QK × LnM)} (h : QsL w0 w qb mv g st n L) : ∀ q, qAll qb mv L g q → q < w.heap.size := fun q hq => hq.elim (h.lt q) (h.disk.disk.lt q)
theorem QsL.low_all {w0 w : World} {qb : Nat} {mv : Option Nat} {g : Gh} {st : St} {n : Nat} {L : List (QK × LnM)} (h : QsL w0 w qb mv g st n L) : ∀ q, qAll qb mv L g q → w0.heap.size ≤ q := fun q hq => hq.elim (h.low q) (h.disk.low q)
theorem qAll_perm {qb : Nat} {mv : Option Nat} {L L' : List (QK × LnM)} {g : Gh} (hp : L.Perm L') (q : Nat) : qAll qb mv L g q ↔ qAll qb mv L' g q := by
  unfold qAll
  rw [(qfoot_perm hp).mem_iff]
theorem qfoot_app (qb : Nat) (mv : Option Nat) (D : List (QK × LnM)) (k : QK) (x : LnM) : (qfoot qb mv (D ++ [(k, x)])).Perm (x.foot ++ qfoot qb mv D) := by
  unfold qfoot
  rw [List.flatMap_append]
  simp only [List.flatMap_cons, List.flatMap_nil, List.append_nil]
  have e : qb :: (mv.toList ++ (D.flatMap (fun p => p.2.foot) ++ x.foot)) = (qb :: (mv.toList ++ D.flatMap fun p => p.2.foot)) ++ x.foot := by simp
  rw [e]
  exact List.perm_append_comm
theorem mem_qfoot_app {qb : Nat} {mv : Option Nat} {D : List (QK × LnM)} {k : QK} {x : LnM} {q : Nat} : q ∈ qfoot qb mv (D ++ [(k, x)]) ↔ q ∈ x.foot ∨ q ∈ qfoot qb mv D := by
  rw [(qfoot_app qb mv D k x).mem_iff, List.mem_append]
theorem QsL.line {w0 w : World} {qb : Nat} {mv : Option Nat} {g : Gh} {st : St} {n : Nat} {L : List (QK × LnM)} (h : QsL w0 w qb mv g st n L) (hs : w0.heap.size ≤ w.heap.size) {k : QK} (hk : getK L k = none) (ht : topicB k.1.1 = true) (hq : 0 ≤ k.1.2 ∧ k.1.2 ≤ 2) (b : Nat) (hb : b ≤ 1099511627776) :
    QsL w0 (w.alloc (.cells #[.pointer none, .int .i64 b, .int .i64 b] 145)) qb mv g st n (L ++ [(k, ⟨w.heap.size, b, b, [], none, b⟩)]) ∧
    QTo w (qAll qb mv L g) (w.alloc (.cells #[.pointer none, .int .i64 b, .int .i64 b] 145)) (qAll qb mv (L ++ [(k, ⟨w.heap.size, b, b, [], none, b⟩)]) g) := by
  have hc : Chg (fun _ => False) w (w.alloc (.cells #[.pointer none, .int .i64 b, .int .i64 b] 145)) := Chg.alloc _ (Chg.refl _ _) _
  have hn := h.new hc
  have hmem : ∀ q, q ∈ qfoot qb mv (L ++ [(k, (⟨w.heap.size, b, b, [], none, b⟩ : LnM))]) → q = w.heap.size ∨ q ∈ qfoot qb mv L := fun q hq => by
    rcases mem_qfoot_app.1 hq with h1 | h1
    · left; simpa [LnM.foot] using h1
    · exact .inr h1
  refine ⟨{ hn with keys := ?_, ln := ?_, apart := ?_, low := ?_, lt := ?_, out := ?_, files := ?_ }, (QTo.of_new hc).wide (fun _ x => x) (fun q hq => ?_)⟩
  · rw [List.map_append, List.nodup_append]
    refine ⟨h.keys, by simp, fun a ha c hc' hx => ?_⟩
    obtain ⟨p, hp, rfl⟩ := List.mem_map.1 ha
    simp at hc'
    exact getK_none hk p hp (hx.trans hc')
  · intro p hp
    rcases List.mem_append.1 hp with hp | hp
    · exact hn.ln p hp
    · rw [List.mem_singleton] at hp
      subst hp
      exact ⟨heap_alloc_new w _, Nat.le_refl _, Nat.le_refl _, Nat.le_refl _, Nat.le_refl _, ht, hq, hb, Nat.zero_le _, (fun p hp => by cases hp), (fun _ => rfl), fun r hr => by cases hr⟩
  · refine (qfoot_app qb mv L k _).nodup_iff.2 ?_
    show (w.heap.size :: qfoot qb mv L).Nodup
    rw [List.nodup_cons]
    exact ⟨fun hx => by have := h.lt _ hx; omega, h.apart⟩
  · intro q hq
    rcases hmem q hq with rfl | h1
    · exact hs
    · exact h.low q h1
  · intro q hq
    rcases hmem q hq with rfl | h1
    · rw [World.size_alloc]; omega
    · exact hn.lt q h1
  · intro q hq
    rcases hmem q hq with rfl | h1
    · intro hx
      have := h.disk.disk.lt _ hx
      omega
    · exact h.out q h1
  · intro f hf hx
    obtain ⟨p, hp, h1⟩ := h.files f hf hx
    exact ⟨p, List.mem_append_left _ hp, h1⟩
  · rcases hq with hq | hq
    · rcases hmem q hq with rfl | h1
      · exact .inr (.inr (Nat.le_refl _))
      · exact .inl (.inl h1)
    · exact .inl (.inr hq)
theorem line_set {w : World} {x : LnM} {i : Nat} {v : Value} {x' : LnM} (h : w.heap[x.lb]? = some (.cells x.cells 145 (0, 0))) (hc : x.cells.setIfInBounds i v = x'.cells) (he : x'.lb = x.lb) : (w.setCell ⟨x.lb, i, none⟩ v).heap[x'.lb]? = some (.cells x'.cells 145 (0, 0)) := by
  have hlt := (Array.getElem?_eq_some_iff.1 h).1
  rw [he, ← hc]
  exact heap_setCell_same w x.lb i _ _ v h
theorem QsL.set {w0 w : World} {qb : Nat} {mv : Option Nat} {g : Gh} {st : St} {n : Nat} {D : List (QK × LnM)} {k : QK} {x : LnM} (h : QsL w0 w qb mv g st n (D ++ [(k, x)])) (i : Nat) (v : Value) {x' : LnM} (hc : x.cells.setIfInBounds i v = x'.cells) (he : x'.lb = x.lb)
    (hln : LnOk w0 (w.setCell ⟨x.lb, i, none⟩ v) g st n k x') (hsome : x.row.isSome = true → x'.row.isSome = true) (hnew : ∀ r, x'.row = some r → x.row = some r ∨ (r ∉ qfoot qb mv (D ++ [(k, x)]) ∧ w0.heap.size ≤ r ∧ r < w.heap.size ∧ r ∉ g.fp)) (hkeep : ∀ r, x.row = some r → x'.row = some r) :
    QsL w0 (w.setCell ⟨x.lb, i, none⟩ v) qb mv g st n (D ++ [(k, x')]) ∧ Chg (fun q => q = x.lb) w (w.setCell ⟨x.lb, i, none⟩ v) ∧ ∀ q ∈ qfoot qb mv (D ++ [(k, x')]), q ∈ qfoot qb mv (D ++ [(k, x)]) ∨ x'.row = some q := by
  have hxm : (k, x) ∈ D ++ [(k, x)] := List.mem_append_right _ (List.mem_singleton.2 rfl)
  have hlb : x.lb ∈ qfoot qb mv (D ++ [(k, x)]) := mem_qfoot_lb hxm
  have hch : Chg (fun q => q = x.lb) w (w.setCell ⟨x.lb, i, none⟩ v) := Chg.setCell (S := fun q => q = x.lb) (p := ⟨x.lb, i, none⟩) (Chg.refl _ _) (fun _ => rfl) _
  have hsz : (w.setCell ⟨x.lb, i, none⟩ v).heap.size = w.heap.size := World.size_setCell ..
  have hnd := h.apart
  rw [(qfoot_app qb mv D k x).nodup_iff, List.nodup_append] at hnd
  have hDne : ∀ q ∈ qfoot qb mv D, q ≠ x.lb := fun q hq hx => hnd.2.2 x.lb (List.mem_cons_self ..) q hq hx.symm
  have hqb : qb ≠ x.lb := hDne qb (mem_qfoot_q ..)
  have hgf : ∀ q ∈ g.fp, ¬ q = x.lb := fun q hq hx => h.out _ hlb (hx ▸ hq)
  have hmem : ∀ q, q ∈ qfoot qb mv (D ++ [(k, x')]) → q ∈ qfoot qb mv (D ++ [(k, x)]) ∨ x'.row = some q := fun q hq => by
    rcases mem_qfoot_app.1 hq with h1 | h1
    · unfold LnM.foot at h1
      rcases List.mem_cons.1 h1 with h2 | h2
      · left; rw [h2, he]; exact hlb
      · right; simpa using h2
    · exact .inl (mem_qfoot_app.2 (.inr h1))
  have hw0 : Chg (fun _ => False) w0 (w.setCell ⟨x.lb, i, none⟩ v) := h.disk.chg.trans hch (fun q hq hx => by have := h.low _ hlb; subst hx; omega)
  have hD' : DiskAt (w.setCell ⟨x.lb, i, none⟩ v) g st := h.disk.disk.chg hch hgf
  refine ⟨⟨⟨hD', rfl, hw0, h.disk.low⟩, h.tab, h.calm, h.nm, hch.heap h.at_ hqb, ?_, ?_, ?_, ?_, ?_, ?_, ?_⟩, hch, hmem⟩
  · have := h.keys
    rw [List.map_append] at this ⊢
    exact this
  · intro p hp
    rcases List.mem_append.1 hp with hp | hp
    · have hpm : p ∈ D ++ [(k, x)] := List.mem_append_left _ hp
      have hl := h.ln p hpm
      have hpD : p.2.lb ∈ qfoot qb mv D := mem_qfoot_lb hp
      refine { hl with at_ := hch.heap hl.at_ (hDne _ hpD), row := fun r2 hr2 => ?_ }
      obtain ⟨m2, i2, j2, h2⟩ := hl.row r2 hr2
      have hr2D : r2 ∈ qfoot qb mv D := mem_qfoot_row hp hr2
      exact ⟨m2, i2, j2, ⟨⟨hD', h2.rg.row.chg hch (hDne _ hr2D), h2.rg.out, hw0, h2.rg.low, h2.rg.lowb, h2.rg.tab0⟩, h2.rc, h2.hd, h2.lo⟩⟩
    · rw [List.mem_singleton] at hp
      subst hp
      exact hln
  · rw [(qfoot_app qb mv D k x').nodup_iff, List.nodup_append]
    refine ⟨?_, hnd.2.1, fun q hq q2 hq2 hx => ?_⟩
    · unfold LnM.foot
      cases hr : x'.row with
      | none => simp
      | some r =>
        simp only [Option.toList_some, List.nodup_cons, List.mem_singleton, List.not_mem_nil, not_false_eq_true, List.nodup_nil, and_true]
        rw [he]
        rcases hnew r hr with h1 | h1
        · have := hnd.1
          unfold LnM.foot at this
          rw [h1] at this
          simpa using this
        · exact fun hx => h1.1 (hx ▸ hlb)
    · subst hx
      unfold LnM.foot at hq
      rcases List.mem_cons.1 hq with h2 | h2
      · exact hDne _ hq2 (h2.trans he)
      · have h2 : x'.row = some q := by simpa using h2
        rcases hnew q h2 with h1 | h1
        · exact hnd.2.2 q (by unfold LnM.foot; rw [h1]; simp) q hq2 rfl
        · exact h1.1 (mem_qfoot_app.2 (.inr hq2))
  · intro q hq
    rcases hmem q hq with h1 | h1
    · exact h.low q h1
    · rcases hnew q h1 with h2 | h2
      · exact h.low q (mem_qfoot_row hxm h2)
      · exact h2.2.1
  · intro q hq
    rw [hsz]
    rcases hmem q hq with h1 | h1
    · exact h.lt q h1
    · rcases hnew q h1 with h2 | h2
      · exact h.lt q (mem_qfoot_row hxm h2)
      · exact h2.2.2.1
  · intro q hq
    rcases hmem q hq with h1 | h1
    · exact h.out q h1
    · rcases hnew q h1 with h2 | h2
      · exact h.out q (mem_qfoot_row hxm h2)
      · exact h2.2.2.2
  · intro f hf hx
    obtain ⟨p, hp, hps, hpx⟩ := h.files f hf hx
    rcases List.mem_append.1 hp with hp | hp
    · exact ⟨p, List.mem_append_left _ hp, hps, hpx⟩
    · rw [List.mem_singleton] at hp
      subst hp
      exact ⟨(k, x'), List.mem_append_right _ (List.mem_singleton.2 rfl), hsome hps, hpx⟩
theorem line_cell {w : World} {b : Nat} {x : LnM} (h : w.heap[b]? = some (.cells x.cells 145 (0, 0))) : w.cell? ⟨b, 0, none⟩ = some (optV x.row) ∧ w.cell? ⟨b, 1, none⟩ = some (.int .i64 x.base) ∧ w.cell? ⟨b, 2, none⟩ = some (.int .i64 x.least) ∧ ∀ i, w.frozen? ⟨b, i, none⟩ = false := by
  unfold LnM.cells at h
  refine ⟨?_, ?_, ?_, fun i => ?_⟩ <;> simp [World.cell?, World.frozen?, h]
theorem qfirst_nil (w : World) : Calls Tryz.prog 42 #[.pointer none] w fun e w' => e = .returned (.int .i64 0) ∧ w = w' := by
  go_enter Tryz.func42, Tryz.ntmps42
  go_wp2_with fail
  go_ret
  exact ⟨rfl, rfl⟩
theorem qnext_nil (w : World) : Calls Tryz.prog 43 #[.pointer none] w fun e w' => e = .returned (.int .i64 0) ∧ w = w' := by
  go_enter Tryz.func43, Tryz.ntmps43
  go_wp2_with fail
  go_ret
  exact ⟨rfl, rfl⟩
theorem qfirst_any {w0 w : World} {g : Gh} {st : St} {n : Nat} {k : QK} {x : LnM} (h : LnOk w0 w g st n k x) : Calls Tryz.prog 42 #[.pointer (some ⟨x.lb, 0, none⟩)] w fun e w' => e = .returned (.int .i64 x.least) ∧ w = w' := by
  obtain ⟨c0, c1, c2, z⟩ := line_cell h.at_
  clear z h
  go_enter Tryz.func42, Tryz.ntmps42
  go_wp2_with fail
  go_ret
  exact ⟨rfl, rfl⟩
theorem LnOk.end_ {w0 w : World} {g : Gh} {st : St} {n : Nat} {k : QK} {x : LnM} (h : LnOk w0 w g st n k x) {r : Nat} {m : RowM} {i0 j : Nat} (hr : RwOk w0 w g st n k x r m i0 j) : 200 * i0 + (bytesE (x.es.drop (10 * i0))).length = 20 * x.es.length ∧ m.end_ = ((20 * x.es.length : Nat) : Int) := by
  have h1 := hr.lo
  have h2 := h.lo
  have h3 : (bytesE (x.es.drop (10 * i0))).length = 20 * (x.es.length - 10 * i0) := by
    rw [bytesE_len fun p hp => h.fit p (List.mem_of_mem_drop hp), List.length_drop]
  have h4 : 200 * i0 + (bytesE (x.es.drop (10 * i0))).length = 20 * x.es.length := by omega
  exact ⟨h4, by rw [hr.rc.row.end_, h4]⟩
set_option maxRecDepth 100000 in
theorem qnext_any {w0 w : World} {g : Gh} {st : St} {n : Nat} {k : QK} {x : LnM} (h : LnOk w0 w g st n k x) (hn : n ≤ 100000) : Calls Tryz.prog 43 #[.pointer (some ⟨x.lb, 0, none⟩)] w fun e w' => e = .returned (.int .i64 ((x.base + x.es.length : Nat) : Int)) ∧ ∃ q, w' = w.drewN q := by
  obtain ⟨c0, c1, c2, z⟩ := line_cell h.at_
  have hel := h.el
  have hbb := h.bb
  obtain ⟨b, hb⟩ : ∃ b, b = x.base := ⟨_, rfl⟩
  obtain ⟨l, hl⟩ : ∃ l, l = x.es.length := ⟨_, rfl⟩
  obtain ⟨s, hs⟩ : ∃ s, s = b + l := ⟨_, rfl⟩
  obtain ⟨rv, hrv⟩ : ∃ rv, rv = optV x.row := ⟨_, rfl⟩
  obtain ⟨t, ht⟩ : ∃ t, t = 20 * l := ⟨_, rfl⟩
  have hE : (x.row = none ∧ l = 0) ∨ ∃ r, x.row = some r ∧ ∀ q, Calls Tryz.prog 85 #[.pointer (some ⟨r, 0, none⟩)] (w.drewN q) fun e w' => e = .returned (.int .i64 (t : Int)) ∧ w.drewN q = w' := by
    cases hr : x.row with
    | none => exact .inl ⟨rfl, by rw [hl, h.none hr]; rfl⟩
    | some r =>
      obtain ⟨m, i0, j, hrw⟩ := h.row r hr
      refine .inr ⟨r, rfl, fun q => ?_⟩
      have hE := rend_any r g.d m (w.drewN q) (hrw.rg.drewN q).row
      rw [(h.end_ hrw).2, ← hl, ← ht] at hE
      exact hE
  have htd : (t : Int).tdiv 20 = (l : Int) := by rw [Int.tdiv_eq_ediv_of_nonneg (by omega)]; omega
  rw [← hb] at c1 hbb ⊢
  rw [← hl] at hel ⊢
  rw [← hs]
  have HS := Lib.hid hs
  have hll : l ≤ 100000 := by omega
  have htl : t ≤ 2000000 := by omega
  rcases hE with ⟨hr, h0⟩ | ⟨r, hr, hE⟩
  · rw [hr] at c0
    have hsb : s = b := by omega
    subst hsb
    have HE := Lib.hid (fun W => end_nil W)
    clear z h hel hb hl hs h0 hr hrv ht htd htl hll
    unfold optV at c0
    dsimp only [Option.map_none] at c0
    go_enter Tryz.func43, Tryz.ntmps43
    go_upto_region 3 with fail
    go_quiet ((go_at_call 85; exact Calls.quiet_of ((HE.out _).mono fun _ _ hh => ⟨hh.1, 0, hh.2.symm⟩)))
    go_wp2_with fail
    go_ret
    exact ⟨rfl, _, rfl⟩
  · rw [hr] at c0
    have HE := Lib.hid hE
    clear z h hel hb hl hs hr hE ht hrv
    unfold optV at c0
    dsimp only [Option.map_some] at c0
    go_enter Tryz.func43, Tryz.ntmps43
    go_upto_region 3 with fail
    go_quiet ((go_at_call 85; exact Calls.quiet_of ((HE.out _).mono fun _ _ hh => ⟨hh.1, 0, hh.2.symm⟩)))
    go_wp2_with fail
    go_ret
    exact ⟨by rw [HS.out]; rfl, _, rfl⟩
set_option maxRecDepth 100000 in
theorem qplace_at {w : World} {lb b : Nat} (c1 : w.cell? ⟨lb, 1, none⟩ = some (.int .i64 b)) (hbb : b ≤ 1099511627776) (a i t : Nat) (ha : a = b + i) (ht : t = 20 * i) (hi : i ≤ 1000000) : Calls Tryz.prog 86 #[.pointer (some ⟨lb, 0, none⟩), .int .i64 (a : Int)] w fun e w' => e = .returned (.int .i64 (t : Int)) ∧ w = w' := by
  go_enter Tryz.func86, Tryz.ntmps86
  go_wp2_with fail
  go_ret
  exact ⟨ret_of (by omega), rfl⟩
structure EntR (x : LnM) (i : Nat) (p : PlM) : Prop where
  at_ : x.es[i]? = some p
  lo : x.lo ≤ x.base + i
set_option maxHeartbeats 1000000 in
set_option maxRecDepth 100000 in
theorem qentry_any {w0 w : World} {g : Gh} {st : St} {n : Nat} {k : QK} {x : LnM} (hc : Calm n st) (h : LnOk w0 w g st n k x) (hn : n ≤ 100000) {i : Nat} {p : PlM} (he : EntR x i p) :
    Calls Tryz.prog 44 #[.pointer (some ⟨x.lb, 0, none⟩), .int .i64 ((x.base + i : Nat) : Int)] w fun e w' => e = .returned (.tuple #[p.val, .int .i64 0]) ∧ Below w.heap.size w w' := by
  have hi := (List.getElem?_eq_some_iff.1 he.at_).1
  have hel := h.el
  have hrow : ∃ r, x.row = some r := by
    cases hr : x.row with
    | none => rw [h.none hr] at hi; simp at hi
    | some r => exact ⟨r, rfl⟩
  obtain ⟨r, hr⟩ := hrow
  obtain ⟨m, i0, j, hrw⟩ := h.row r hr
  obtain ⟨hl, hend⟩ := h.end_ hrw
  have hlo := hrw.lo
  have hlo2 := he.lo
  have hfit : p.fit = true := h.fit p (List.mem_of_getElem? he.at_)
  have hR := fun W (hW : Below w.heap.size w W) => c_read_in (hrw.rg.new (Chg.of_below hW)) hrw.rc (20 * i) 20 (by omega) (by omega) (by omega) (by omega)
  have hb20 : ((bytesE (x.es.drop (10 * i0))).drop (20 * i - 200 * i0)).take 20 = p.bs := by
    have h1 : (x.es.drop (10 * i0))[i - 10 * i0]? = some p := by rw [List.getElem?_drop, show 10 * i0 + (i - 10 * i0) = i by omega]; exact he.at_
    have h2 := bytesE_at (fun q hq => h.fit q (List.mem_of_mem_drop hq)) h1
    rw [show 20 * (i - 10 * i0) = 20 * i - 200 * i0 by omega] at h2
    exact h2
  simp only [hb20, show (⟨p.bs.toArray⟩ : ByteArray) = p.tx from by unfold PlM.bs; simp] at hR
  obtain ⟨b1, b2, b3, b4, b5⟩ := PlM.back hfit
  have hG : ∀ W, Calls Tryz.prog 87 #[.string p.tx] W fun e w' => e = .returned (.tuple #[.agg #[.int .i64 p.a, .int .i64 p.b, .int .i64 p.c, .int .i64 p.d], .bool true]) ∧ Below W.heap.size W w' := fun W => by
    have := placeGet_any p.tx W
    unfold GetPost at this
    rw [b1, b2, b3, b4, b5] at this
    exact this
  obtain ⟨c0, c1, c2, z⟩ := line_cell h.at_
  rw [hr] at c0
  unfold optV at c0
  dsimp only [Option.map_some] at c0
  have hrc := (RowAt.cell hrw.rg.row).1
  obtain ⟨a, ha⟩ : ∃ a, a = x.base + i := ⟨_, rfl⟩
  obtain ⟨t, ht⟩ : ∃ t, t = 20 * i := ⟨_, rfl⟩
  obtain ⟨b, hb⟩ : ∃ b, b = x.base := ⟨_, rfl⟩
  obtain ⟨lb, hlb⟩ : ∃ lb, lb = x.lb := ⟨_, rfl⟩
  rw [← ht] at hR
  rw [← hb] at ha c1
  rw [← hlb] at c0 c1 ⊢
  have HP : Hid (∀ W, W.cell? ⟨lb, 1, none⟩ = some (.int .i64 b) → Calls Tryz.prog 86 #[.pointer (some ⟨lb, 0, none⟩), .int .i64 (a : Int)] W fun e w' => e = .returned (.int .i64 (t : Int)) ∧ W = w') := Lib.hid (fun W hW => qplace_at hW (by rw [hb]; exact h.bb) a i t ha ht (by omega))
  rw [← hb] at *
  rw [← ha]
  have HG := Lib.hid hG
  obtain ⟨pa, pb, pc, pd⟩ := p
  obtain ⟨s, hs⟩ : ∃ s, s = PlM.tx ⟨pa, pb, pc, pd⟩ := ⟨_, rfl⟩
  have HR : Hid (∀ W, Below w.heap.size w W → Calls Tryz.prog 45 #[.pointer (some ⟨r, 0, none⟩), .int .i64 (t : Int), .int .i64 20] W fun e w' => e = .returned (.tuple #[.string s, .int .i64 0]) ∧ Below W.heap.size W w') := Lib.hid (fun W hW => by rw [hs]; exact hR W hW)
  rw [← hs] at HG
  have hlt : lb < w.heap.size := World.block_lt_of_cell? _ _ c0
  unfold PlM.val
  dsimp only
  obtain ⟨W0, hW0⟩ : ∃ W, W = w.alloc (.cells #[.int .i64 0, .int .i64 0, .int .i64 0, .int .i64 0] 54) := ⟨_, rfl⟩
  have hb0 : Below w.heap.size w W0 := hW0 ▸ (Below.refl _ _).alloc (Nat.le_refl _) _
  have k0 := (hb0.cell (p := ⟨lb, 0, none⟩) hlt).trans c0
  have k1 := (hb0.cell (p := ⟨lb, 1, none⟩) hlt).trans c1
  have kr := (hb0.cell (p := ⟨r, 0, none⟩) hrw.rg.row.lt).trans hrc
  have HD : Hid (Calls Tryz.prog 70 #[.pointer (some ⟨g.d, 0, none⟩)] W0 fun e w' => e = .returned (.bool false) ∧ W0 = w') := Lib.hid (by
    have := down_any g st W0 (hrw.rg.new (Chg.of_below hb0)).disk
    rw [hc.down] at this
    exact this)
  have HZ : Hid (W0.rowIs w.heap.size 54 4 (fun _ => .int .i64 0)) := Lib.hid (hW0 ▸ row4 w 54)
  have HB0 := Lib.hid hb0
  have HW0 := Lib.hid hW0
  have HLT := Lib.hid hlt
  clear z h he hi hel hr hrw hl hend hlo hlo2 hfit hb20 b1 b2 b3 b4 b5 hR hG c0 c1 c2 ha ht hc hs hn hb hlb hb0 hW0 hrc hlt
  go_enter Tryz.func44, Tryz.ntmps44
  go_upto_region 1 with fail
  rw [← HW0.out]
  go_wp2_with fail
  refine HD.out.mono ?_
  rintro e w1 ⟨rfl, rfl⟩
  go_upto_region 3 with fail
  go_cut [6, 7] (fun v6 v7 wx => v6 = .string s ∧ v7 = .int .i64 0 ∧ Below W0.heap.size W0 wx)
  case first =>
    go_region_held3 (fun w' => w'.cell? ⟨lb, 0, none⟩ = some (.pointer (some ⟨r, 0, none⟩)) ∧ w'.cell? ⟨lb, 1, none⟩ = some (.int .i64 b))
      (first | exact ⟨k0, k1⟩ | go_keep)
      (first
        | (go_at_call 86
           refine (HP.out _ ?_).mono ?_
           · first | exact k1
           rintro e w2 ⟨rfl, rfl⟩)
        | (go_at_call 45
           refine (HR.out _ ?_).mono ?_
           · repeat (first | exact HB0.out | with_reducible refine Below.drew ?_ | with_reducible refine Below.drewN ?_ _)
           rintro e w2 ⟨rfl, hb2⟩
           have k0 := keep4 hb2 k0
           have k1 := keep4 hb2 k1
           have HB2 := Lib.hid hb2
           clear hb2))
    all_goals
      go_wp2_with fail
      go_meet
      case rel => exact ⟨rfl, rfl, by repeat (first | exact Below.refl _ _ | with_reducible refine below_drewN ?_ _ | with_reducible refine Below.drew ?_ | refine below_on HB2.out ?_ (Nat.le_refl _))⟩
  case rest =>
    obtain ⟨rfl, rfl, hb1⟩ := hcut
    have HB1 := Lib.hid (HB0.out.trans (hb1.mono HB0.out.size))
    have HZ1 := Lib.hid (HZ.out.of_block (hb1.block _ HZ.out.lt))
    have HGG := Lib.hid (fun W => HG.out W)
    clear hb1 k0 k1 kr
    go_wp2_with fail
    refine (HG.out _).mono ?_
    rintro e w2 ⟨rfl, hb2⟩
    have hr2 := HZ1.out.of_block (hb2.block _ HZ1.out.lt)
    have HB2 := Lib.hid (HB1.out.trans (hb2.mono HB1.out.size))
    have hr0 := hr2.cell (i := 0) (by decide)
    have hr1 := hr2.cell (i := 1) (by decide)
    have hr3 := hr2.cell (i := 2) (by decide)
    have hr4 := hr2.cell (i := 3) (by decide)
    have hf0 := hr2.frozen 0
    have hf1 := hr2.frozen 1
    have hf2 := hr2.frozen 2
    have hf3 := hr2.frozen 3
    have HR2 := Lib.hid hr2
    have hlt := hr2.lt
    clear hb2 hr2
    go_wp2_with fail
    obtain ⟨W4, hW4⟩ : ∃ W, W = (((w2.setCell ⟨w.heap.size, 0, none⟩ (.int .i64 pa)).setCell ⟨w.heap.size, 1, none⟩ (.int .i64 pb)).setCell ⟨w.heap.size, 2, none⟩ (.int .i64 pc)).setCell ⟨w.heap.size, 3, none⟩ (.int .i64 pd) := ⟨_, rfl⟩
    have hB4 := below_set4 HB2.out (Nat.le_refl _) hW4
    obtain ⟨e0, e1, e2, e3⟩ := set4 HR2.out _ _ _ _ hW4
    rw [← hW4]
    obtain ⟨W5, hW5⟩ : ∃ W, W = W4.alloc (.cells #[.int .i64 pa, .int .i64 pb, .int .i64 pc, .int .i64 pd] 54) := ⟨_, rfl⟩
    have g0 : W5.cell? ⟨w.heap.size, 0, none⟩ = some (.int .i64 pa) := by rw [hW5, World.cell?_alloc_lt _ _ _ (World.block_lt_of_cell? _ _ e0)]; exact e0
    have g1 : W5.cell? ⟨w.heap.size, 1, none⟩ = some (.int .i64 pb) := by rw [hW5, World.cell?_alloc_lt _ _ _ (World.block_lt_of_cell? _ _ e1)]; exact e1
    have g2 : W5.cell? ⟨w.heap.size, 2, none⟩ = some (.int .i64 pc) := by rw [hW5, World.cell?_alloc_lt _ _ _ (World.block_lt_of_cell? _ _ e2)]; exact e2
    have g3 : W5.cell? ⟨w.heap.size, 3, none⟩ = some (.int .i64 pd) := by rw [hW5, World.cell?_alloc_lt _ _ _ (World.block_lt_of_cell? _ _ e3)]; exact e3
    have hB5 : Below w.heap.size w W5 := by rw [hW5]; exact hB4.alloc hB4.size _
    rw [← hW5]
    refine bodyPost_ret (v := .tuple #[.agg #[.int .i64 pa, .int .i64 pb, .int .i64 pc, .int .i64 pd], .int .i64 0]) ?_ rfl ⟨rfl, hB5⟩
    clear hW4 hW5 hB4 hB5 e0 e1 e2 e3 hr0 hr1 hr3 hr4 hf0 hf1 hf2 hf3
    simp [results, Tryz.results44, go_sem, g0, g1, g2, g3]
theorem qs_cell {w : World} {qb d : Nat} {mv : Option Nat} (h : w.heap[qb]? = some (.cells #[.pointer (some ⟨d, 0, none⟩), .map mv] 124 (0, 0))) : w.cell? ⟨qb, 0, none⟩ = some (.pointer (some ⟨d, 0, none⟩)) ∧ w.cell? ⟨qb, 1, none⟩ = some (.map mv) ∧ ∀ i, w.frozen? ⟨qb, i, none⟩ = false := by
  refine ⟨?_, ?_, fun i => ?_⟩ <;> simp [World.cell?, World.frozen?, h]
theorem getK_lbs (L : List (QK × LnM)) (k : QK) : getK (lbs L) k = (getK L k).map (·.lb) := by
  unfold getK lbs
  rw [List.find?_map]
  cases h : L.find? ((fun p : QK × Nat => decide (p.1 = k)) ∘ fun p : QK × LnM => (p.1, p.2.lb)) with
  | none =>
    have : L.find? (fun p => decide (p.1 = k)) = none := h
    rw [this]; rfl
  | some p =>
    have : L.find? (fun p => decide (p.1 = k)) = some p := h
    rw [this]; rfl
theorem MapIs.look {w : World} {mv : Option Nat} {L : List (QK × Nat)} (h : MapIs w mv L) (k : QK) : (Instr.lookup 122 (.map mv) k.kv false).run Tryz.prog w = .ok (optV (getK L k)) w := by
  cases mv with
  | none =>
    have h : L = [] := h
    subst h
    exact Maps.look_nil false q_keyed Tryz.underlying122 (zero_line w) (q_keyOf k)
  | some mb =>
    have h1 := MapK.look (K := qK) (E := lnEl) h (t := 122) (e := 99) Tryz.underlying122 (z := none) (zero_line w) k trivial false
    have e : (getK (L.map fun p => (p.1, some p.2)) k).getD none = getK L k := by
      unfold getK
      rw [List.find?_map]
      cases hx : L.find? ((fun p : QK × Option Nat => decide (p.1 = k)) ∘ fun p : QK × Nat => (p.1, some p.2)) with
      | none =>
        have : L.find? (fun p => decide (p.1 = k)) = none := hx
        rw [this]; rfl
      | some p =>
        have : L.find? (fun p => decide (p.1 = k)) = some p := hx
        rw [this]; rfl
    rw [e] at h1
    exact h1
set_option maxHeartbeats 1000000 in
set_option maxRecDepth 100000 in
theorem qfind_any {w : World} {qb d : Nat} {mv : Option Nat} {L : List (QK × Nat)} (h : w.heap[qb]? = some (.cells #[.pointer (some ⟨d, 0, none⟩), .map mv] 124 (0, 0))) (hm : MapIs w mv L) (k : QK) :
    Calls Tryz.prog 41 #[.pointer (some ⟨qb, 0, none⟩), .agg #[.string k.1.1, .int .i64 k.1.2]] w fun e w' => e = .returned (optV (getK L k)) ∧ Below w.heap.size w w' := by
  have hlt := (Array.getElem?_eq_some_iff.1 h).1
  obtain ⟨o, ho⟩ : ∃ o, o = optV (getK L k) := ⟨_, rfl⟩
  rw [← ho]
  have hlk : ∀ q', (Instr.lookup 122 (.map mv) (.agg #[.string k.1.1, .int .i64 k.1.2]) false).run Tryz.prog ((w.alloc (.cells #[.string k.1.1, .int .i64 k.1.2] 98)).drewN q') = .ok o ((w.alloc (.cells #[.string k.1.1, .int .i64 k.1.2] 98)).drewN q') := fun q' => by
    rw [ho]
    exact MapIs.look (hm.new ((Chg.alloc (S := fun _ => False) (Chg.refl _ _) _).drewN q')) k
  have hlk0 := hlk 0
  obtain ⟨⟨t, q⟩, hk1, hk2⟩ := k
  dsimp only at hlk hlk0 ⊢
  obtain ⟨c0, c1, z⟩ := qs_cell h
  have hb : ∀ q', Below w.heap.size w ((w.alloc (.cells #[.string t, .int .i64 q] 98)).drewN q') := fun q' => below_drewN ((Below.refl _ _).alloc (Nat.le_refl _) _) q'
  have HB := Lib.hid hb
  clear hb h hm z ho
  go_enter Tryz.func41, Tryz.ntmps41
  go_upto_region 3 with fail
  go_quiet (fail)
  go_wp2_with fail
  go_ret
  exact ⟨rfl, HB.out _⟩
def refQ (t : ByteArray) (q : Int) : Int := if topicB t = true then (if 0 ≤ q ∧ q ≤ 2 then 0 else 13) else 11
set_option maxRecDepth 100000 in
theorem qrefuses_any (qb : Nat) (t : ByteArray) (ht : t.size ≤ maxLen) (q : Int) (w : World) : Calls Tryz.prog 152 #[.pointer (some ⟨qb, 0, none⟩), .string t, .int .i64 q] w fun e w' => e = .returned (.int .i64 (refQ t q)) ∧ Below w.heap.size w w' := by
  have hT := topic_any t w ht
  obtain ⟨b, hb⟩ : ∃ b, b = topicB t := ⟨_, rfl⟩
  obtain ⟨r, hr⟩ : ∃ r, r = refQ t q := ⟨_, rfl⟩
  have hr2 := hr
  unfold refQ at hr2
  rw [← hb] at hT hr2
  rw [← hr]
  have HT := Lib.hid hT
  clear hT hb hr
  cases b
  · have hr3 : r = 11 := hr2
    subst hr3
    clear hr2
    go_enter Tryz.func152, Tryz.ntmps152
    go_wp2_with fail
    refine HT.out.mono ?_
    rintro e w1 ⟨rfl, hb1⟩
    have HB := Lib.hid hb1
    clear hb1
    go_wp2_with fail
    go_ret
    exact ⟨rfl, HB.out⟩
  · rw [if_pos rfl] at hr2
    by_cases h0 : q < 0
    · have hr3 : r = 13 := by rw [hr2, if_neg (by omega)]
      subst hr3
      clear hr2
      go_enter Tryz.func152, Tryz.ntmps152
      go_wp2_with fail
      refine HT.out.mono ?_
      rintro e w1 ⟨rfl, hb1⟩
      have HB := Lib.hid hb1
      clear hb1
      go_wp2_with fail
      go_ret
      exact ⟨rfl, HB.out⟩
    · by_cases h3 : 3 ≤ q
      · have hr3 : r = 13 := by rw [hr2, if_neg (by omega)]
        subst hr3
        clear hr2
        go_enter Tryz.func152, Tryz.ntmps152
        go_wp2_with fail
        refine HT.out.mono ?_
        rintro e w1 ⟨rfl, hb1⟩
        have HB := Lib.hid hb1
        clear hb1
        go_wp2_with fail
        go_ret
        exact ⟨rfl, HB.out⟩
      · have hr3 : r = 0 := by rw [hr2, if_pos (by omega)]
        subst hr3
        clear hr2
        go_enter Tryz.func152, Tryz.ntmps152
        go_wp2_with fail
        refine HT.out.mono ?_
        rintro e w1 ⟨rfl, hb1⟩
        have HB := Lib.hid hb1
        clear hb1
        go_wp2_with fail
        go_ret
        exact ⟨rfl, HB.out⟩
theorem LnOk.chg {S : Nat → Prop} {w0 w w' : World} {g : Gh} {st : St} {n : Nat} {k : QK} {x : LnM} (h : LnOk w0 w g st n k x) (hc : Chg S w w') (hx : ∀ q ∈ x.foot, ¬ S q) (hd : DiskAt w' g st) (hw : Chg (fun _ => False) w0 w') : LnOk w0 w' g st n k x := by
  refine { h with at_ := hc.heap h.at_ (hx _ (List.mem_cons_self ..)), row := fun r hr => ?_ }
  obtain ⟨m, i0, j, h2⟩ := h.row r hr
  exact ⟨m, i0, j, { h2 with rg := ⟨hd, h2.rg.row.chg hc (hx r (by unfold LnM.foot; rw [hr]; simp)), h2.rg.out, hw, h2.rg.low, h2.rg.lowb, h2.rg.tab0⟩ }⟩
theorem QsL.chg {S : Nat → Prop} {w0 w w' : World} {qb : Nat} {mv : Option Nat} {g : Gh} {st : St} {n : Nat} {L : List (QK × LnM)} (h : QsL w0 w qb mv g st n L) (hc : Chg S w w') (hq : ¬ S qb) (hx : ∀ p ∈ L, ∀ q ∈ p.2.foot, ¬ S q) (hg : ∀ q ∈ g.fp, ¬ S q) (hlow : ∀ q, S q → w0.heap.size ≤ q) : QsL w0 w' qb mv g st n L := by
  have hw : Chg (fun _ => False) w0 w' := h.disk.chg.trans hc (fun q hq2 hs => by have := hlow q hs; omega)
  have hd : DiskAt w' g st := h.disk.disk.chg hc hg
  exact { h with disk := ⟨hd, rfl, hw, h.disk.low⟩, at_ := hc.heap h.at_ hq, ln := fun p hp => (h.ln p hp).chg hc (hx p hp) hd hw, lt := fun q hq2 => Nat.lt_of_lt_of_le (h.lt q hq2) hc.size }
theorem qs_apart {w0 w : World} {qb : Nat} {mv : Option Nat} {g : Gh} {st : St} {n : Nat} {L : List (QK × LnM)} (h : QsL w0 w qb mv g st n L) : (∀ mb, mv = some mb → mb ≠ qb ∧ (∀ p ∈ L, mb ∉ p.2.foot)) ∧ ∀ p ∈ L, qb ∉ p.2.foot := by
  have hap := h.apart
  unfold qfoot at hap
  rw [List.nodup_cons, List.nodup_append] at hap
  refine ⟨fun mb hm => ⟨fun hx => hap.1 ?_, fun p hp hx => ?_⟩, fun p hp hx => hap.1 (List.mem_append_right _ (List.mem_flatMap.2 ⟨p, hp, hx⟩))⟩
  · subst hm; rw [← hx]; exact List.mem_append_left _ (by simp)
  · subst hm
    exact hap.2.2.2 mb (by simp) mb (List.mem_flatMap.2 ⟨p, hp, hx⟩) rfl
theorem QsL.mapped {w0 w w' : World} {qb mb : Nat} {g : Gh} {st : St} {n : Nat} {L : List (QK × LnM)} (h : QsL w0 w qb (some mb) g st n L) (hc : Chg (fun q => q = mb) w w') : QsL w0 w' qb (some mb) g st n L := by
  obtain ⟨h1, h2⟩ := qs_apart h
  obtain ⟨h3, h4⟩ := h1 mb rfl
  have hmem : mb ∈ qfoot qb (some mb) L := mem_qfoot_mv rfl
  exact h.chg hc (fun hx => h3 hx.symm) (fun p hp q hq hx => h4 p hp (hx ▸ hq)) (fun q hq hx => h.out mb hmem (hx ▸ hq)) (fun q hx => by rw [hx]; exact h.low mb hmem)
theorem QsL.newmap {w0 w w' : World} {qb : Nat} {g : Gh} {st : St} {n : Nat} {L : List (QK × LnM)} (h : QsL w0 w qb none g st n L) (hs : w0.heap.size ≤ w.heap.size) (hw' : w' = (w.alloc (.map #[] 0)).setCell ⟨qb, 1, none⟩ (.map (some w.heap.size))) :
    QsL w0 w' qb (some w.heap.size) g st n L ∧ Chg (fun q => q = qb) w w' ∧ w'.heap.size = w.heap.size + 1 ∧ w'.heap[w.heap.size]? = some (.map #[] 0) := by
  have hqm : qb ∈ qfoot qb none L := mem_qfoot_q ..
  have hqlt := h.lt _ hqm
  have ha : Chg (fun _ => False) w (w.alloc (.map #[] 0)) := Chg.alloc _ (Chg.refl _ _) _
  have h1 := h.new ha
  have hset : Chg (fun q => q = qb) (w.alloc (.map #[] 0)) w' := hw' ▸ Chg.setCell (S := fun q => q = qb) (p := ⟨qb, 1, none⟩) (Chg.refl _ _) (fun _ => rfl) _
  have hc : Chg (fun q => q = qb) w w' := (ha.wide (fun _ _ x => x.elim)).trans hset (fun _ _ x => x)
  obtain ⟨_, h2⟩ := qs_apart h
  have hgq : ∀ q ∈ g.fp, ¬ q = qb := fun q hq hx => h.out qb hqm (hx ▸ hq)
  have hw : Chg (fun _ => False) w0 w' := h1.disk.chg.trans hset (fun q hq2 hx => by have := h.low _ hqm; subst hx; omega)
  have hd : DiskAt w' g st := h1.disk.disk.chg hset hgq
  have hsz : w'.heap.size = w.heap.size + 1 := by rw [hw', World.size_setCell, World.size_alloc]
  have hmem : ∀ q, q ∈ qfoot qb (some w.heap.size) L → q = w.heap.size ∨ q ∈ qfoot qb none L := fun q hq => by
    unfold qfoot at *
    simp only [Option.toList_some, List.cons_append, List.nil_append, List.mem_cons, Option.toList_none] at *
    rcases hq with hq | hq | hq
    · exact .inr (.inl hq)
    · exact .inl hq
    · exact .inr (.inr hq)
  refine ⟨⟨⟨hd, rfl, hw, h.disk.low⟩, h.tab, h.calm, h.nm, ?_, h.keys, fun p hp => (h1.ln p hp).chg hset (fun q hq hx => h2 p hp (hx ▸ hq)) hd hw, ?_, ?_, ?_, ?_, h.files⟩, hc, hsz, ?_⟩
  · rw [hw']
    exact heap_setCell_same _ qb 1 _ _ _ h1.at_
  · have hap := h.apart
    unfold qfoot at hap ⊢
    simp only [Option.toList_none, List.nil_append, Option.toList_some, List.cons_append] at hap ⊢
    rw [List.nodup_cons] at hap ⊢
    rw [List.nodup_cons]
    refine ⟨fun hx => ?_, fun hx => ?_, hap.2⟩
    · rcases List.mem_cons.1 hx with hx | hx
      · omega
      · exact hap.1 hx
    · have := h.lt w.heap.size (List.mem_cons_of_mem _ (by simpa using hx))
      omega
  · intro q hq
    rcases hmem q hq with rfl | h3
    · exact hs
    · exact h.low q h3
  · intro q hq
    rcases hmem q hq with rfl | h3
    · omega
    · have := h.lt q h3; omega
  · intro q hq
    rcases hmem q hq with rfl | h3
    · intro hx
      have := h.disk.disk.lt _ hx
      omega
    · exact h.out q h3
  · refine hset.heap (heap_alloc_new w _) (fun hx => by omega)
theorem dec_small (q : Nat) (hq : q ≤ 2) : (⟨(Lib.decDigits q).toArray⟩ : ByteArray) = ⟨#[UInt8.ofNat (48 + q)]⟩ := by
  match q, hq with
  | 0, _ => decide +kernel
  | 1, _ => decide +kernel
  | 2, _ => decide +kernel
theorem cat_head (t : ByteArray) (q : Nat) : (⟨#[113, 45]⟩ : ByteArray) ++ t ++ ⟨#[46]⟩ ++ ⟨#[UInt8.ofNat (48 + q)]⟩ ++ ⟨#[45]⟩ = headQ t q := by
  apply ByteArray.ext
  apply Array.toList_inj.1
  rw [headQ_data]
  simp [ByteArray.data_append, headL]
set_option maxHeartbeats 1000000 in
set_option maxRecDepth 100000 in
theorem qhead_any (t : ByteArray) (ht : t.size ≤ 100) (q : Nat) (hq : q ≤ 2) (w : World) (htab : Tab10 w) : Calls Tryz.prog 209 #[.agg #[.string t, .int .i64 (q : Int)]] w fun e w' => e = .returned (.string (headQ t q)) ∧ Below w.heap.size w w' := by
  obtain ⟨a1, ha1⟩ : ∃ a : ByteArray, a = (⟨#[113, 45]⟩ : ByteArray) ++ t := ⟨_, rfl⟩
  obtain ⟨a2, ha2⟩ : ∃ a : ByteArray, a = a1 ++ (⟨#[46]⟩ : ByteArray) := ⟨_, rfl⟩
  obtain ⟨dg, hdg⟩ : ∃ a : ByteArray, a = (⟨#[UInt8.ofNat (48 + q)]⟩ : ByteArray) := ⟨_, rfl⟩
  obtain ⟨a3, ha3⟩ : ∃ a : ByteArray, a = a2 ++ dg := ⟨_, rfl⟩
  obtain ⟨a4, ha4⟩ : ∃ a : ByteArray, a = a3 ++ (⟨#[45]⟩ : ByteArray) := ⟨_, rfl⟩
  have h4 : headQ t q = a4 := by rw [ha4, ha3, ha2, ha1, hdg, cat_head]
  rw [h4]
  have hsz : ∀ a b : ByteArray, (a ++ b).size = a.size + b.size := fun a b => ByteArray.size_append
  have s1 : a1.size = 2 + t.size := by rw [ha1, hsz]; rfl
  have s2 : a2.size = 3 + t.size := by rw [ha2, hsz, s1]; show 2 + t.size + 1 = _; omega
  have sd : dg.size = 1 := by rw [hdg]; rfl
  have s3 : a3.size = 4 + t.size := by rw [ha3, hsz, s2, sd]; omega
  have hc1 : ∀ W, (Op.stringOp .add ⟨#[113, 45]⟩ t).run Tryz.prog W = .ok (.string a1) W := fun W => by rw [run_string_add W _ t (by show ((2 : Nat) : Int) ≤ _; omega) (by omega), ha1]
  have hc2 : ∀ W, (Op.stringOp .add a1 ⟨#[46]⟩).run Tryz.prog W = .ok (.string a2) W := fun W => by rw [run_string_add W a1 _ (by omega) (by show ((1 : Nat) : Int) ≤ _; omega), ha2]
  have hc3 : ∀ W, (Op.stringOp .add a2 dg).run Tryz.prog W = .ok (.string a3) W := fun W => by rw [run_string_add W a2 dg (by omega) (by omega), ha3]
  have hc4 : ∀ W, (Op.stringOp .add a3 ⟨#[45]⟩).run Tryz.prog W = .ok (.string a4) W := fun W => by rw [run_string_add W a3 _ (by omega) (by show ((1 : Nat) : Int) ≤ _; omega), ha4]
  have HI : Hid (∀ W, Below w.heap.size w W → Calls Tryz.prog 170 #[.int .i64 (q : Int)] W fun e w' => e = .returned (.string dg) ∧ Below W.heap.size W w') := Lib.hid (fun W hW => by
    rw [hdg, ← dec_small q hq]
    exact itoa_any q (by omega) W (tab_chg htab (Chg.of_below hW)))
  obtain ⟨W0, hW0⟩ : ∃ W, W = w.alloc (.cells #[.string t, .int .i64 (q : Int)] 98) := ⟨_, rfl⟩
  have hb0 : Below w.heap.size w W0 := hW0 ▸ (Below.refl _ _).alloc (Nat.le_refl _) _
  have k0 : W0.cell? ⟨w.heap.size, 0, none⟩ = some (.string t) := by rw [hW0]; simp
  have k1 : W0.cell? ⟨w.heap.size, 1, none⟩ = some (.int .i64 (q : Int)) := by rw [hW0]; simp
  have HB0 := Lib.hid hb0
  have HW0 := Lib.hid hW0
  clear ha1 ha2 ha3 ha4 hdg h4 hsz s1 s2 s3 sd hW0 hb0 htab
  go_enter Tryz.func209, Tryz.ntmps209
  go_upto_region 1 with fail
  rw [← HW0.out]
  go_region_held3 (fun w' => w'.cell? ⟨w.heap.size, 0, none⟩ = some (.string t) ∧ w'.cell? ⟨w.heap.size, 1, none⟩ = some (.int .i64 (q : Int)))
    (first | exact ⟨k0, k1⟩ | go_keep)
    (first
      | (go_at_call 170
         refine (HI.out _ ?_).mono ?_
         · repeat (first | exact HB0.out | with_reducible refine Below.drew ?_ | with_reducible refine Below.drewN ?_ _)
         rintro e w2 ⟨rfl, hb2⟩
         have k0 := keep4 hb2 k0
         have k1 := keep4 hb2 k1
         have HB2 := Lib.hid hb2
         clear hb2))
  all_goals
    go_wp2_with fail
    go_ret
    refine ⟨rfl, ?_⟩
    repeat (first | exact HB0.out | with_reducible refine Below.drew ?_ | with_reducible refine Below.drewN ?_ _ | refine below_on HB2.out ?_ (Nat.le_refl _))
theorem QsL.gh {w0 w w' : World} {qb : Nat} {mv : Option Nat} {g g' : Gh} {st : St} {n : Nat} {L : List (QK × LnM)} (h : QsL w0 w qb mv g st n L) (hd : DiskAt w' g' st) (ht : Gh.To w g g' w') : QsL w0 w' qb mv g' st n L ∧ QTo w (qAll qb mv L g) w' (qAll qb mv L g') := by
  have hn : ∀ q ∈ qfoot qb mv L, ¬ q ∈ g.fp := fun q hq => h.out q hq
  have hw : Chg (fun _ => False) w0 w' := h.disk.chg.trans ht.chg (fun q hq hs => by have := h.disk.low q hs; omega)
  have hlow : ∀ q ∈ g'.fp, w0.heap.size ≤ q := fun q hq => by
    rcases ht.fp q hq with a | a
    · exact h.disk.low q a
    · have := h.disk.chg.size; omega
  refine ⟨{ h with disk := ⟨hd, rfl, hw, hlow⟩, at_ := ?_, ln := fun p hp => ?_, lt := fun q hq => Nat.lt_of_lt_of_le (h.lt q hq) ht.chg.size, out := fun q hq hx => ?_ }, ⟨ht.chg.wide (fun q _ hx => .inr hx), fun q hq => ?_⟩⟩
  · rw [ht.d]
    exact ht.chg.heap h.at_ (hn _ (mem_qfoot_q ..))
  · have hl := h.ln p hp
    refine { hl with at_ := ht.chg.heap hl.at_ (hn _ (mem_qfoot_lb hp)), row := fun r hr => ?_ }
    obtain ⟨m, i0, j, h2⟩ := hl.row r hr
    exact ⟨m, i0, j, { h2 with rg := (h2.rg.op hd ht).1 }⟩
  · rcases ht.fp q hx with a | a
    · exact h.out q hq a
    · have := h.lt q hq; omega
  · rcases hq with a | a
    · exact .inl (.inl a)
    · rcases ht.fp q a with b | b
      · exact .inl (.inr b)
      · exact .inr b
theorem QsL.fresh {w0 w : World} {qb : Nat} {mv : Option Nat} {g : Gh} {st : St} {n : Nat} {D : List (QK × LnM)} {k : QK} {x : LnM} (h : QsL w0 w qb mv g st n (D ++ [(k, x)])) (hx : x.row = none) : RowC n (newRow (hdQ k) ((200 : Nat) : Int)) st 200 0 0 [] := by
  have hxm : (k, x) ∈ D ++ [(k, x)] := List.mem_append_right _ (List.mem_singleton.2 rfl)
  have hl : LnOk w0 w g st n k x := h.ln _ hxm
  obtain ⟨t1, t2, t3, t4⟩ := topic_q hl.top hl.qn
  refine rowC_fresh (hdQ k) 200 h.calm h.nm (by omega) (by decide) (by decide) (fun p hp => ?_)
  cases hc : Lib.hasPrefix p.1.data.toList (hdQ k).data.toList with
  | false => rfl
  | true =>
    exfalso
    obtain ⟨q, hq, hs, hpq⟩ := h.files p hp (hd_pre k hc)
    have hq2 := h.ln q hq
    by_cases hk : k = q.1
    · rcases List.mem_append.1 hq with a | a
      · have hkeys := h.keys
        rw [List.map_append, List.nodup_append] at hkeys
        exact hkeys.2.2 _ (List.mem_map_of_mem (f := fun p : QK × LnM => p.1) a) k (by simp) hk.symm
      · rw [List.mem_singleton] at a
        subst a
        have hs : x.row.isSome = true := hs
        rw [hx] at hs
        cases hs
    · have := hd_unlike hl.top hl.qn hq2.top hq2.qn hk hc
      rw [this] at hpq
      cases hpq
theorem QsL.rowed {w0 w w' : World} {qb : Nat} {mv : Option Nat} {g g' : Gh} {st : St} {n : Nat} {D : List (QK × LnM)} {k : QK} {x : LnM} {b : Nat} {m : RowM} (h : QsL w0 w qb mv g st n (D ++ [(k, x)])) (hx : x.row = none) (hb : w.heap.size ≤ b) (hg : RowG w0 w' b g' st m) (ht : Gh.To w g g' w') (hh : m.head = hdQ k) (hk : RowC n m st 200 0 0 []) :
    QsL w0 (w'.setCell ⟨x.lb, 0, none⟩ (.pointer (some ⟨b, 0, none⟩))) qb mv g' st n (D ++ [(k, { x with row := some b })]) ∧ QTo w (qAll qb mv (D ++ [(k, x)]) g) (w'.setCell ⟨x.lb, 0, none⟩ (.pointer (some ⟨b, 0, none⟩))) (qAll qb mv (D ++ [(k, { x with row := some b })]) g') := by
  have hxm : (k, x) ∈ D ++ [(k, x)] := List.mem_append_right _ (List.mem_singleton.2 rfl)
  obtain ⟨h1, h2⟩ := h.gh hg.disk ht
  have hl : LnOk w0 w' g' st n k x := h1.ln _ hxm
  have hlbm : x.lb ∈ qfoot qb mv (D ++ [(k, x)]) := mem_qfoot_lb hxm
  have hlb : x.lb < w.heap.size := h.lt _ hlbm
  have hset : Chg (fun q => q = x.lb) w' (w'.setCell ⟨x.lb, 0, none⟩ (.pointer (some ⟨b, 0, none⟩))) := Chg.setCell (S := fun q => q = x.lb) (p := ⟨x.lb, 0, none⟩) (Chg.refl _ _) (fun _ => rfl) _
  have hne : ¬ b = x.lb := fun hx => by omega
  have hgf : ∀ q ∈ g'.fp, ¬ q = x.lb := fun q hq hx => h1.out _ hlbm (hx ▸ hq)
  have hcells : x.cells.setIfInBounds 0 (.pointer (some ⟨b, 0, none⟩)) = ({ x with row := some b } : LnM).cells := rfl
  have hes : x.es = [] := hl.none hx
  have hw : Chg (fun _ => False) w0 (w'.setCell ⟨x.lb, 0, none⟩ (.pointer (some ⟨b, 0, none⟩))) := hg.chg.trans hset (fun q hq hs => by have := h.low _ hlbm; subst hs; omega)
  have hln : LnOk w0 (w'.setCell ⟨x.lb, 0, none⟩ (.pointer (some ⟨b, 0, none⟩))) g' st n k { x with row := some b } :=
    ⟨line_set hl.at_ hcells rfl, hl.le, hl.lt, hl.lo, hl.lob, hl.top, hl.qn, hl.bb, hl.el, hl.fit, (fun hx => by cases hx), fun r hr => by
      cases hr
      exact ⟨m, 0, 0, ⟨⟨hg.disk.chg hset hgf, hg.row.chg hset hne, hg.out, hw, hg.low, hg.lowb, hg.tab0⟩, by rw [hes]; exact hk, hh, hl.lob⟩⟩⟩
  obtain ⟨r1, r2, r3⟩ := h1.set 0 (.pointer (some ⟨b, 0, none⟩)) (x' := { x with row := some b }) hcells rfl hln (fun _ => rfl) (fun r hr => by
    cases hr
    exact .inr ⟨fun hm => by have := h.lt _ hm; omega, hg.lowb, hg.row.lt, hg.out⟩) (fun r hr => by rw [hx] at hr; cases hr)
  refine ⟨r1, ⟨h2.chg.trans (r2.wide (fun q _ hq => (Or.inl (hq ▸ hlbm) : qAll qb mv (D ++ [(k, x)]) g' q))) (fun q hq hs => ?_), fun q hq => ?_⟩⟩
  · rcases h2.new q hs with a | a
    · exact a
    · omega
  · rcases hq with a | a
    · rcases r3 q a with c | c
      · exact .inl (.inl c)
      · cases c; exact .inr hb
    · exact h2.new q (.inr a)
def lnD (L : List (QK × LnM)) (k : QK) : LnM := (getK L k).getD ⟨0, 0, 0, [], none, 0⟩
def QOpenTo (w0 w : World) (qb : Nat) (mv : Option Nat) (g : Gh) (st : St) (n : Nat) (L : List (QK × LnM)) (k : QK) (e : Ending) (w' : World) : Prop :=
  ∃ x' g', e = .returned (.tuple #[.pointer (some ⟨x'.lb, 0, none⟩), .int .i64 0]) ∧ QsL w0 w' qb mv g' st n (dropK L k ++ [(k, x')]) ∧ MapIs w' mv (lbs L) ∧ QTo w (qAll qb mv L g) w' (qAll qb mv (dropK L k ++ [(k, x')]) g') ∧ x'.row.isSome = true ∧ x'.base = (lnD L k).base ∧ x'.least = (lnD L k).least ∧ x'.es = (lnD L k).es ∧ x'.lo = (lnD L k).lo ∧ g'.d = g.d
def OpRes (w0 w2 : World) (g : Gh) (st : St) (n : Nat) (H : ByteArray) (b : Nat) (wx : World) : Prop := ∃ g' m', w2.heap.size ≤ b ∧ RowG w0 wx b g' st m' ∧ Gh.To w2 g g' wx ∧ m'.head = H ∧ RowC n m' st 200 0 0 []
theorem qopen_seg {w0 w2 : World} {qb : Nat} {mv : Option Nat} {g : Gh} {st : St} {n : Nat} {D : List (QK × LnM)} {k : QK} {x : LnM} (h : QsL w0 w2 qb mv g st n (D ++ [(k, x)])) (hx : x.row = none) (hn : n ≤ 100000) {H : ByteArray} (hH : H = hdQ k) (W : World) (hW : Below w2.heap.size w2 W) :
    Calls Tryz.prog 51 #[.pointer (some ⟨g.d, 0, none⟩), .string H, .int .i64 200] W fun e w' => ∃ b, e = .returned (.tuple #[.pointer (some ⟨b, 0, none⟩), .int .i64 0]) ∧ OpRes w0 w2 g st n H b w' ∧ ∀ p v, W.cell? p = some v → p.block ∉ g.fp → w'.cell? p = some v := by
  subst hH
  have hc : Chg (fun _ => False) w2 W := Chg.of_below hW
  have ho := c_open (z := 200) (h.disk.new hc) h.tab (h.fresh hx) (by omega)
  refine ho.mono ?_
  rintro e w' ⟨b, rfl, hb, g', m', h1, h2, h3, _, h5⟩
  exact ⟨b, rfl, ⟨g', m', Nat.le_trans hW.size hb, h1, (Gh.To.new g hc).trans h2, h3, h5⟩, fun p v hp hx => h2.chg.cell hp hx⟩
theorem QsL.rowed_map {w0 w w' : World} {qb : Nat} {mv : Option Nat} {g g' : Gh} {st : St} {n : Nat} {D : List (QK × LnM)} {k : QK} {x : LnM} {b : Nat} (h : QsL w0 w qb mv g st n (D ++ [(k, x)])) (ht : Gh.To w g g' w') {M : List (QK × Nat)} (hm : MapIs w mv M) : MapIs (w'.setCell ⟨x.lb, 0, none⟩ (.pointer (some ⟨b, 0, none⟩))) mv M := by
  obtain ⟨h1, h2⟩ := qs_apart h
  have hm2 : MapIs w' mv M := hm.keep (fun mb hmb => by subst hmb; exact ht.chg.block _ hm.lt (h.out mb (mem_qfoot_mv rfl)))
  refine hm2.keep (fun mb hmb => ?_)
  subst hmb
  have hset : Chg (fun q => q = x.lb) w' (w'.setCell ⟨x.lb, 0, none⟩ (.pointer (some ⟨b, 0, none⟩))) := Chg.setCell (S := fun q => q = x.lb) (p := ⟨x.lb, 0, none⟩) (Chg.refl _ _) (fun _ => rfl) _
  exact hset.block _ hm2.lt (fun hx => (h1 mb rfl).2 _ (List.mem_append_right _ (List.mem_singleton.2 rfl)) (hx ▸ List.mem_cons_self ..))
set_option maxHeartbeats 4000000 in
set_option maxRecDepth 100000 in
theorem qopen_any {w0 w : World} {qb : Nat} {mv : Option Nat} {g : Gh} {st : St} {n : Nat} {L : List (QK × LnM)} (h : QsL w0 w qb mv g st n L) (hm : MapIs w mv (lbs L)) (hn : n ≤ 100000) (k' : QK) (t : ByteArray) (q : Nat) (hk1 : k'.1.1 = t) (hk2 : k'.1.2 = (q : Int)) (ht : topicB t = true) (hq : q ≤ 2) :
    Calls Tryz.prog 154 #[.pointer (some ⟨qb, 0, none⟩), .agg #[.string t, .int .i64 (q : Int)]] w (QOpenTo w0 w qb mv g st n L k') := by
  have hhd0 : headQ t q = hdQ k' := by unfold hdQ; rw [hk1, hk2]; rfl
  obtain ⟨H, hH⟩ : ∃ H, H = headQ t q := ⟨_, rfl⟩
  have HHQ := Lib.hid (hH.trans hhd0)
  have HHT := Lib.hid hH
  clear hhd0 hH
  have ht16 := (topic_small ht).2
  obtain ⟨W0, hW0⟩ : ∃ W, W = w.alloc (.cells #[.string t, .int .i64 (q : Int)] 98) := ⟨_, rfl⟩
  have hb0 : Below w.heap.size w W0 := hW0 ▸ (Below.refl _ _).alloc (Nat.le_refl _) _
  have k0 : W0.cell? ⟨w.heap.size, 0, none⟩ = some (.string t) := by rw [hW0]; simp
  have k1 : W0.cell? ⟨w.heap.size, 1, none⟩ = some (.int .i64 (q : Int)) := by rw [hW0]; simp
  have hc0 : Chg (fun _ => False) w W0 := Chg.of_below hb0
  have h0 := h.new hc0
  have hm0 := hm.new hc0
  have hF := qfind_any h0.at_ hm0 k'
  rw [hk1, hk2, getK_lbs] at hF
  have HNX : Hid (w.heap.size ∉ g.fp) := Lib.hid (fun hx => by have := h.disk.disk.lt _ hx; omega)
  have HT := Lib.hid (And.intro (show topicB k'.1.1 = true by rw [hk1]; exact ht) (show 0 ≤ k'.1.2 ∧ k'.1.2 ≤ 2 by rw [hk2]; omega))
  have HF := Lib.hid hF
  have HW0 := Lib.hid hW0
  have HH := Lib.hid h
  have HB0 := Lib.hid hb0
  have HH0 := Lib.hid h0
  have HM0 := Lib.hid hm0
  have hsz : w0.heap.size ≤ w.heap.size := h.disk.chg.size
  clear hk1 hk2 ht hW0 hc0 h hm hF h0 hm0 hb0
  go_enter Tryz.func154, Tryz.ntmps154
  go_upto_region 1 with fail
  rw [← HW0.out]
  cases hgk : getK L k' with
  | none =>
    have HGK := Lib.hid hgk
    rw [hgk] at HF
    unfold optV at HF
    dsimp only [Option.map_none] at HF
    go_wp2_with fail
    refine HF.out.mono ?_
    rintro e w1 ⟨rfl, hb1⟩
    have hh1 := HH0.out.new (Chg.of_below hb1)
    have kx0 := keep4 hb1 k0
    have kx1 := keep4 hb1 k1
    have hls := hh1.line (Nat.le_trans hsz (Nat.le_trans HB0.out.size hb1.size)) HGK.out HT.out.1 HT.out.2 0 (by decide)
    obtain ⟨w2, hw2⟩ : ∃ W, W = w1.alloc (.cells #[.pointer none, .int .i64 0, .int .i64 0] 145) := ⟨_, rfl⟩
    have hb2 : Below w1.heap.size w1 w2 := hw2 ▸ (Below.refl _ _).alloc (Nat.le_refl _) _
    obtain ⟨x', hx'⟩ : ∃ x : LnM, x = ⟨w1.heap.size, 0, 0, [], none, 0⟩ := ⟨_, rfl⟩
    have hls2 : QsL w0 w2 qb mv g st n (L ++ [(k', x')]) ∧ QTo w1 (qAll qb mv L g) w2 (qAll qb mv (L ++ [(k', x')]) g) := by rw [hw2, hx']; exact hls
    have hdk : dropK L k' = L := dropK_none HGK.out
    rw [← hdk] at hls2
    have hq2 : QsL w0 w2 qb mv g st n (dropK L k' ++ [(k', x')]) := by have := hls2.1; rw [hdk] at this; rw [hdk]; exact this
    have hqt : QTo w (qAll qb mv L g) w2 (qAll qb mv (dropK L k' ++ [(k', x')]) g) := by
      have := hls2.2
      rw [hdk] at this
      rw [hdk]
      exact (QTo.of_new ((Chg.of_below HB0.out : Chg (fun _ => False) w W0).trans (Chg.of_below hb1) (fun _ _ x => x))).trans this
    have hm2 : MapIs w2 mv (lbs L) := (HM0.out.new (Chg.of_below hb1)).new (Chg.of_below hb2)
    have hrn : x'.row = none := by rw [hx']
    have hln2 : LnOk w0 w2 g st n k' x' := hq2.ln _ (List.mem_append_right _ (List.mem_singleton.2 rfl))
    have hxl : x'.lb = w1.heap.size := by rw [hx']
    have kx0 := keep4 hb2 kx0
    have kx1 := keep4 hb2 kx1
    have e1 : lnD L k' = ⟨0, 0, 0, [], none, 0⟩ := by unfold lnD; rw [hgk]; rfl
    have HX : Hid (x'.base = (lnD L k').base ∧ x'.least = (lnD L k').least ∧ x'.es = (lnD L k').es ∧ x'.lo = (lnD L k').lo) := Lib.hid (by rw [e1, hx']; exact ⟨rfl, rfl, rfl, rfl⟩)
    clear e1
    have HW2 := Lib.hid hw2
    clear hgk hh1 hls hls2 hb1 hb2 hx' hw2 hdk k0 k1
    go_upto_region 4 with fail
    rw [← HW2.out, ← hxl]
    clear hxl
    have HB12 := Lib.hid hq2
    obtain ⟨hq0, hq1, hqz⟩ := qs_cell hq2.at_
    obtain ⟨c0, c1, c2, z⟩ := line_cell hln2.at_
    rw [hrn] at c0
    unfold optV at c0
    dsimp only [Option.map_none] at c0
    have HNQ : Hid (qb ∉ g.fp) := Lib.hid (hq2.out _ (mem_qfoot_q ..))
    have HLN := Lib.hid hln2
    have HRN := Lib.hid hrn
    have HQT := Lib.hid hqt
    have HMP := Lib.hid hm2
    have HOP : Hid (∀ W, Below w2.heap.size w2 W → Calls Tryz.prog 51 #[.pointer (some ⟨g.d, 0, none⟩), .string H, .int .i64 200] W fun e w' => ∃ b, e = .returned (.tuple #[.pointer (some ⟨b, 0, none⟩), .int .i64 0]) ∧ OpRes w0 w2 g st n H b w' ∧ ∀ p v, W.cell? p = some v → p.block ∉ g.fp → w'.cell? p = some v) := Lib.hid (qopen_seg hq2 hrn hn HHQ.out)
    have HHD : Hid (∀ W, Below w2.heap.size w2 W → Calls Tryz.prog 209 #[.agg #[.string t, .int .i64 (q : Int)]] W fun e w' => e = .returned (.string H) ∧ Below W.heap.size W w') := Lib.hid (fun W hW => by rw [HHT.out]; exact qhead_any t (by omega) q (by omega) W (tab_chg hq2.tab ((hq2.new (Chg.of_below hW)).disk.chg)))
    clear hq1 hqz c1 c2 z hln2 hqt hm2 hq2 hrn
    go_upto_region 5 with fail
    go_cut [7, 8] (fun v7 v8 wx => v8 = .int .i64 0 ∧ ∃ b, v7 = .pointer (some ⟨b, 0, none⟩) ∧ OpRes w0 w2 g st n H b wx)
    case first =>
      go_region_held3 (fun w' => w'.cell? ⟨qb, 0, none⟩ = some (.pointer (some ⟨g.d, 0, none⟩)) ∧ w'.cell? ⟨w.heap.size, 0, none⟩ = some (.string t) ∧ w'.cell? ⟨w.heap.size, 1, none⟩ = some (.int .i64 (q : Int)))
        (first | exact ⟨hq0, kx0, kx1⟩ | go_keep)
        (first
          | (go_at_call 209
             refine (HHD.out _ ?_).mono ?_
             · repeat (first | exact Below.refl _ _ | with_reducible refine Below.drew ?_ | with_reducible refine Below.drewN ?_ _)
             rintro e w3 ⟨rfl, hb3⟩
             have hq0 := keep4 hb3 hq0
             have kx0 := keep4 hb3 kx0
             have kx1 := keep4 hb3 kx1
             have HB3 := Lib.hid hb3
             clear hb3)
          | (go_at_call 51
             refine (HOP.out _ ?_).mono ?_
             · repeat (first | exact Below.refl _ _ | with_reducible refine Below.drew ?_ | with_reducible refine Below.drewN ?_ _ | refine below_on HB3.out ?_ (Nat.le_refl _))
             rintro e w4 ⟨rb, rfl, ho4, hk4⟩
             have hq0 := hk4 _ _ hq0 HNQ.out
             have kx0 := hk4 _ _ kx0 HNX.out
             have kx1 := hk4 _ _ kx1 HNX.out
             have HO4 := Lib.hid ho4
             clear ho4 hk4))
      all_goals
        go_wp2_with fail
        go_meet
        case rel => exact ⟨rfl, _, rfl, by repeat (first | exact HO4.out | with_reducible refine OpRes.drew ?_ | with_reducible refine OpRes.drewN ?_ _)⟩
    case rest =>
      obtain ⟨rfl, rb, rfl, hrest⟩ := hcut
      obtain ⟨g', m', s1, s2, s3, s4, s5⟩ := hrest
      have hS := HB12.out.rowed HRN.out s1 s2 s3 (s4.trans HHQ.out) s5
      have hMM := HB12.out.rowed_map (b := rb) s3 HMP.out
      have hln := (HB12.out.gh s2.disk s3).1.ln _ (List.mem_append_right _ (List.mem_singleton.2 rfl))
      obtain ⟨c0', c1, c2, z⟩ := line_cell hln.at_
      have z0 := z 0
      rw [show (k', x').2.row = none from HRN.out] at c0'
      have HS := Lib.hid hS
      have HM3 := Lib.hid hMM
      have HSD := Lib.hid s3.d
      clear c1 c2 z hln hS hMM s1 s2 s3 s4 s5
      go_wp2_with fail
      go_ret2
      have e1 := HX.out
      exact ⟨{ x' with row := some rb }, g', rfl, HS.out.1, HM3.out, HQT.out.trans HS.out.2, rfl, by rw [e1.1], by rw [e1.2.1], by rw [e1.2.2.1], by rw [e1.2.2.2], HSD.out⟩
  | some x' =>
    have HGK := Lib.hid hgk
    rw [hgk] at HF
    unfold optV at HF
    dsimp only [Option.map_some] at HF
    go_wp2_with fail
    refine HF.out.mono ?_
    rintro e w2 ⟨rfl, hb2⟩
    have hc2 : Chg (fun _ => False) w w2 := (Chg.of_below HB0.out : Chg (fun _ => False) w W0).trans (Chg.of_below hb2) (fun _ _ x => x)
    have hpm := focus_perm HH.out.keys HGK.out
    have hq2 : QsL w0 w2 qb mv g st n (dropK L k' ++ [(k', x')]) := (HH.out.new hc2).perm hpm
    have hqt : QTo w (qAll qb mv L g) w2 (qAll qb mv (dropK L k' ++ [(k', x')]) g) := (QTo.of_new hc2).wide (fun _ x => x) (fun q hq => .inl ((qAll_perm hpm q).2 hq))
    have hm2 : MapIs w2 mv (lbs L) := HM0.out.new (Chg.of_below hb2)
    have hln2 : LnOk w0 w2 g st n k' x' := hq2.ln _ (List.mem_append_right _ (List.mem_singleton.2 rfl))
    have kx0 := keep4 hb2 k0
    have kx1 := keep4 hb2 k1
    cases hrn : x'.row with
    | some r =>
      obtain ⟨c0, c1, c2, z⟩ := line_cell hln2.at_
      rw [hrn] at c0
      unfold optV at c0
      dsimp only [Option.map_some] at c0
      have HRR := Lib.hid (And.intro hq2 (And.intro hqt (And.intro hm2 (And.intro hrn hgk))))
      clear c1 c2 z hq2 hqt hm2 hln2 hrn hgk hb2 hc2 hpm k0 k1
      go_wp2_with fail
      go_ret2
      obtain ⟨r1, r2, r3, r4, r5⟩ := HRR.out
      have e1 : lnD L k' = x' := by unfold lnD; rw [r5]; rfl
      exact ⟨x', g, rfl, r1, r3, r2, by rw [r4]; rfl, by rw [e1], by rw [e1], by rw [e1], by rw [e1], rfl⟩
    | none =>
    have e1 : lnD L k' = x' := by unfold lnD; rw [hgk]; rfl
    have HX : Hid (x'.base = (lnD L k').base ∧ x'.least = (lnD L k').least ∧ x'.es = (lnD L k').es ∧ x'.lo = (lnD L k').lo) := Lib.hid (by rw [e1]; exact ⟨rfl, rfl, rfl, rfl⟩)
    clear e1
    clear hgk hb2 hc2 hpm k0 k1
    have HB12 := Lib.hid hq2
    obtain ⟨hq0, hq1, hqz⟩ := qs_cell hq2.at_
    obtain ⟨c0, c1, c2, z⟩ := line_cell hln2.at_
    rw [hrn] at c0
    unfold optV at c0
    dsimp only [Option.map_none] at c0
    have HNQ : Hid (qb ∉ g.fp) := Lib.hid (hq2.out _ (mem_qfoot_q ..))
    have HLN := Lib.hid hln2
    have HRN := Lib.hid hrn
    have HQT := Lib.hid hqt
    have HMP := Lib.hid hm2
    have HOP : Hid (∀ W, Below w2.heap.size w2 W → Calls Tryz.prog 51 #[.pointer (some ⟨g.d, 0, none⟩), .string H, .int .i64 200] W fun e w' => ∃ b, e = .returned (.tuple #[.pointer (some ⟨b, 0, none⟩), .int .i64 0]) ∧ OpRes w0 w2 g st n H b w' ∧ ∀ p v, W.cell? p = some v → p.block ∉ g.fp → w'.cell? p = some v) := Lib.hid (qopen_seg hq2 hrn hn HHQ.out)
    have HHD : Hid (∀ W, Below w2.heap.size w2 W → Calls Tryz.prog 209 #[.agg #[.string t, .int .i64 (q : Int)]] W fun e w' => e = .returned (.string H) ∧ Below W.heap.size W w') := Lib.hid (fun W hW => by rw [HHT.out]; exact qhead_any t (by omega) q (by omega) W (tab_chg hq2.tab ((hq2.new (Chg.of_below hW)).disk.chg)))
    clear hq1 hqz c1 c2 z hln2 hqt hm2 hq2 hrn
    go_upto_region 5 with fail
    go_cut [7, 8] (fun v7 v8 wx => v8 = .int .i64 0 ∧ ∃ b, v7 = .pointer (some ⟨b, 0, none⟩) ∧ OpRes w0 w2 g st n H b wx)
    case first =>
      go_region_held3 (fun w' => w'.cell? ⟨qb, 0, none⟩ = some (.pointer (some ⟨g.d, 0, none⟩)) ∧ w'.cell? ⟨w.heap.size, 0, none⟩ = some (.string t) ∧ w'.cell? ⟨w.heap.size, 1, none⟩ = some (.int .i64 (q : Int)))
        (first | exact ⟨hq0, kx0, kx1⟩ | go_keep)
        (first
          | (go_at_call 209
             refine (HHD.out _ ?_).mono ?_
             · repeat (first | exact Below.refl _ _ | with_reducible refine Below.drew ?_ | with_reducible refine Below.drewN ?_ _)
             rintro e w3 ⟨rfl, hb3⟩
             have hq0 := keep4 hb3 hq0
             have kx0 := keep4 hb3 kx0
             have kx1 := keep4 hb3 kx1
             have HB3 := Lib.hid hb3
             clear hb3)
          | (go_at_call 51
             refine (HOP.out _ ?_).mono ?_
             · repeat (first | exact Below.refl _ _ | with_reducible refine Below.drew ?_ | with_reducible refine Below.drewN ?_ _ | refine below_on HB3.out ?_ (Nat.le_refl _))
             rintro e w4 ⟨rb, rfl, ho4, hk4⟩
             have hq0 := hk4 _ _ hq0 HNQ.out
             have kx0 := hk4 _ _ kx0 HNX.out
             have kx1 := hk4 _ _ kx1 HNX.out
             have HO4 := Lib.hid ho4
             clear ho4 hk4))
      all_goals
        go_wp2_with fail
        go_meet
        case rel => exact ⟨rfl, _, rfl, by repeat (first | exact HO4.out | with_reducible refine OpRes.drew ?_ | with_reducible refine OpRes.drewN ?_ _)⟩
    case rest =>
      obtain ⟨rfl, rb, rfl, hrest⟩ := hcut
      obtain ⟨g', m', s1, s2, s3, s4, s5⟩ := hrest
      have hS := HB12.out.rowed HRN.out s1 s2 s3 (s4.trans HHQ.out) s5
      have hMM := HB12.out.rowed_map (b := rb) s3 HMP.out
      have hln := (HB12.out.gh s2.disk s3).1.ln _ (List.mem_append_right _ (List.mem_singleton.2 rfl))
      obtain ⟨c0', c1, c2, z⟩ := line_cell hln.at_
      have z0 := z 0
      rw [show (k', x').2.row = none from HRN.out] at c0'
      have HS := Lib.hid hS
      have HM3 := Lib.hid hMM
      have HSD := Lib.hid s3.d
      clear c1 c2 z hln hS hMM s1 s2 s3 s4 s5
      go_wp2_with fail
      go_ret2
      have e1 := HX.out
      exact ⟨{ x' with row := some rb }, g', rfl, HS.out.1, HM3.out, HQT.out.trans HS.out.2, rfl, by rw [e1.1], by rw [e1.2.1], by rw [e1.2.2.1], by rw [e1.2.2.2], HSD.out⟩
section
variable {w : World} {ops : Array Oper} {rest : List Oper} {o : Oper} {a : Act} {Q : Exit → Act → World → Prop}
theorem wpList_store_ln (hg : o.guard = none) (m x v : Operand) (hop : o.op = Op.mapUpdate 122 m x v) (mm : Nat) (M : List (QK × Option Nat)) (k : QK) (t : ByteArray) (q : Int) (hk : k.kv = .agg #[.string t, .int .i64 q]) (lb : Nat)
    (hm : a.eval m = .map (some mm)) (hx : a.eval x = .agg #[.string t, .int .i64 q]) (hv : a.eval v = .pointer (some ⟨lb, 0, none⟩)) (h : MapK qK lnEl w mm M) (hn : M.length < maxLen)
    (hK : ∀ w', MapK qK lnEl w' mm (dropK M k ++ [(k, some lb)]) → w.grownBy w' (some mm) → w'.heap.size = w.heap.size → wpList Tryz.prog ops Q rest (a.put o.dst undef) w') : wpList Tryz.prog ops Q (o :: rest) a w := by
  refine wpList_plain hg fun K' hK' => ?_
  obtain ⟨w', hrun, r1, r2, r3⟩ := MapK.store h (t := 122) (e := 99) Tryz.underlying122 k trivial (some lb) hn
  have hrun : (Instr.mapUpdate 122 (.map (some mm)) k.kv (.pointer (some ⟨lb, 0, none⟩))).run Tryz.prog w = .ok () w' := hrun
  rw [hk] at hrun
  unfold Oper.wp
  simp [execOp, hop, hm, hx, hv, hrun, Result.andThen]
  exact hK' _ _ (hK w' r1 r2 r3)
end
theorem lbs_put (M : List (QK × Nat)) (k : QK) (lb : Nat) : (dropK M k ++ [(k, lb)]).map (fun p => (p.1, some p.2)) = dropK (M.map fun p => (p.1, some p.2)) k ++ [(k, some lb)] := by
  unfold dropK
  rw [List.map_append, List.filter_map]
  rfl
def QKeepTo (w0 w : World) (qb : Nat) (mv : Option Nat) (g : Gh) (st : St) (n : Nat) (L : List (QK × LnM)) (M : List (QK × Nat)) (e : Ending) (w' : World) : Prop :=
  e = .returned (.tuple #[]) ∧ ∃ mv', QsL w0 w' qb mv' g st n L ∧ MapIs w' mv' M ∧ QTo w (qAll qb mv L g) w' (qAll qb mv' L g)
set_option maxHeartbeats 4000000 in
set_option maxRecDepth 100000 in
theorem qkeep_any {w0 w : World} {qb : Nat} {mv : Option Nat} {g : Gh} {st : St} {n : Nat} {L : List (QK × LnM)} (h : QsL w0 w qb mv g st n L) {M : List (QK × Nat)} (hm : MapIs w mv M) (hl : M.length ≤ 1000000) (k : QK) (t : ByteArray) (q : Int) (hk : k.kv = .agg #[.string t, .int .i64 q]) (lb : Nat) :
    Calls Tryz.prog 155 #[.pointer (some ⟨qb, 0, none⟩), .agg #[.string t, .int .i64 q], .pointer (some ⟨lb, 0, none⟩)] w (QKeepTo w0 w qb mv g st n L (dropK M k ++ [(k, lb)])) := by
  obtain ⟨W0, hW0⟩ : ∃ W, W = w.alloc (.cells #[.string t, .int .i64 q] 98) := ⟨_, rfl⟩
  have hb0 : Below w.heap.size w W0 := hW0 ▸ (Below.refl _ _).alloc (Nat.le_refl _) _
  have k0 : W0.cell? ⟨w.heap.size, 0, none⟩ = some (.string t) := by rw [hW0]; simp
  have k1 : W0.cell? ⟨w.heap.size, 1, none⟩ = some (.int .i64 q) := by rw [hW0]; simp
  have hc0 : Chg (fun _ => False) w W0 := Chg.of_below hb0
  have h0 := h.new hc0
  have hm0 := hm.new hc0
  have hsz : w0.heap.size ≤ W0.heap.size := Nat.le_trans h.disk.chg.size hb0.size
  have hqlt := h.lt qb (mem_qfoot_q ..)
  have HW0 := Lib.hid hW0
  have HC0 := Lib.hid hc0
  have HK := Lib.hid hk
  obtain ⟨q0, q1, qz⟩ := qs_cell h0.at_
  cases mv with
  | none =>
    have hM : M = [] := hm0
    subst hM
    obtain ⟨W2, hW2⟩ : ∃ W, W = (W0.alloc (.map #[] 0)).setCell ⟨qb, 1, none⟩ (.map (some W0.heap.size)) := ⟨_, rfl⟩
    obtain ⟨n1, n2, n3, n4⟩ := h0.newmap hsz hW2
    have hmk : MapK qK lnEl W2 W0.heap.size [] := by
      have := MapK.made (K := qK) (E := lnEl) W0
      refine this.heap ?_
      rw [n4, heap_alloc_new]
    have hmm := @run_makeMap Tryz.prog
    have hen := fun w => run_eql_map_nil (P := Tryz.prog) w _ _ _ none Tryz.underlying122
    have kx0 := n2.cell k0 (fun hx => by have hx : w.heap.size = qb := hx; omega)
    have kx1 := n2.cell k1 (fun hx => by have hx : w.heap.size = qb := hx; omega)
    obtain ⟨p0, p1, pz⟩ := qs_cell n1.at_
    have z1 : (W0.alloc (.map #[] 0)).frozen? ⟨qb, 1, none⟩ = false := by have := (qs_cell (h0.new (Chg.alloc (fun _ => False) (Chg.refl _ _) (.map #[] 0))).at_).2.2 1; exact this
    have q1' : (W0.alloc (.map #[] 0)).cell? ⟨qb, 1, none⟩ = some (.map none) := (qs_cell (h0.new (Chg.alloc (fun _ => False) (Chg.refl _ _) (.map #[] 0))).at_).2.1
    have hqt : QTo W0 (qAll qb none L g) W2 (qAll qb (some W0.heap.size) L g) := ⟨n2.wide (fun x _ hx => .inl (hx ▸ mem_qfoot_q ..)), fun x hx => by
      rcases hx with a | a
      · unfold qfoot at a
        simp only [Option.toList_some, List.cons_append, List.nil_append, List.mem_cons] at a
        rcases a with a | a | a
        · exact .inl (.inl (by rw [a]; exact mem_qfoot_q ..))
        · exact .inr (by omega)
        · exact .inl (.inl (by unfold qfoot; simp only [Option.toList_none, List.nil_append, List.mem_cons]; exact .inr a))
      · exact .inl (.inr a)⟩
    have HN := Lib.hid (And.intro n1 (And.intro hmk hqt))
    have HW2 := Lib.hid hW2
    clear h hm hb0 k0 k1 hc0 h0 hm0 hk hW0 hW2 n1 n2 n3 n4 hmk p0 pz qz hqt
    go_enter Tryz.func155, Tryz.ntmps155
    go_upto_region 1 with fail
    rw [← HW0.out]
    go_upto_region 3 with fail
    rw [← HW2.out]
    go_still_tail 6, (by kernel_rfl)
    repeat still_step
    change wpList _ _ _ _ _ W2.drew
    have hN2 := HN.out.1.new (Chg.refl (fun _ => False) W2).drew
    have HN2 := Lib.hid hN2
    have HMK2 : Hid (MapK qK lnEl W2.drew W0.heap.size []) := Lib.hid (MapK.heap HN.out.2.1 rfl)
    have HQ2 : Hid (QTo w (qAll qb none L g) W2.drew (qAll qb (some W0.heap.size) L g)) := Lib.hid (((QTo.of_new HC0.out : QTo w (qAll qb none L g) W0 (qAll qb none L g)).trans HN.out.2.2).trans (QTo.of_new (Chg.refl _ _).drew))
    clear hN2
    generalize W2.drew = w3 at HN2 HMK2 HQ2 ⊢
    go_wp2_with (with_reducible refine wpList_store_ln rfl (.tmp 18) (.tmp 19) (.tmp 20) rfl W0.heap.size [] k t q HK.out lb rfl rfl rfl ?c1 ?c2 ?c3)
    case c1 => exact HMK2.out
    case c2 => show 0 < maxLen; unfold maxLen; omega
    case c3 =>
      intro w4 hm4 hg4 hs4
      have hch : Chg (fun x => x = W0.heap.size) w3 w4 := Chg.of_grown hg4 (fun x hx _ => (Option.some.inj hx).symm)
      have hq4 := HN2.out.mapped hch
      have HE : Hid (∃ mv', QsL w0 w4 qb mv' g st n L ∧ MapIs w4 mv' (dropK [] k ++ [(k, lb)]) ∧ QTo w (qAll qb none L g) w4 (qAll qb mv' L g)) := Lib.hid ⟨some W0.heap.size, hq4, hm4, HQ2.out.trans ⟨hch.wide (fun x _ hx => .inl (hx ▸ mem_qfoot_mv rfl)), fun x hx => .inl hx⟩⟩
      clear hm4 hg4 hs4 hch hq4
      go_wp2_with fail
      go_end0
      exact ⟨rfl, HE.out⟩
  | some mb =>
    have hen := fun w => run_eql_map_nil (P := Tryz.prog) w _ _ _ (some mb) Tryz.underlying122
    have HN : Hid (QsL w0 W0 qb (some mb) g st n L ∧ MapK qK lnEl W0 mb (M.map fun p => (p.1, some p.2)) ∧ QTo W0 (qAll qb (some mb) L g) W0 (qAll qb (some mb) L g)) := Lib.hid ⟨h0, hm0, QTo.refl _ _⟩
    clear h hm hb0 hc0 h0 hm0 hk hW0 qz
    go_enter Tryz.func155, Tryz.ntmps155
    go_upto_region 1 with fail
    rw [← HW0.out]
    go_upto_region 3 with fail
    go_still_tail 6, (by kernel_rfl)
    repeat still_step
    change wpList _ _ _ _ _ W0.drew
    have hN2 := HN.out.1.new (Chg.refl (fun _ => False) W0).drew
    have HN2 := Lib.hid hN2
    have HMK2 : Hid (MapK qK lnEl W0.drew mb (M.map fun p => (p.1, some p.2))) := Lib.hid (MapK.heap HN.out.2.1 rfl)
    have HQ2 : Hid (QTo w (qAll qb (some mb) L g) W0.drew (qAll qb (some mb) L g)) := Lib.hid (((QTo.of_new HC0.out : QTo w (qAll qb (some mb) L g) W0 (qAll qb (some mb) L g)).trans HN.out.2.2).trans (QTo.of_new (Chg.refl _ _).drew))
    clear hN2
    generalize W0.drew = w3 at HN2 HMK2 HQ2 ⊢
    go_wp2_with (with_reducible refine wpList_store_ln rfl (.tmp 18) (.tmp 19) (.tmp 20) rfl mb (M.map fun p => (p.1, some p.2)) k t q HK.out lb rfl rfl rfl ?c1 ?c2 ?c3)
    case c1 => exact HMK2.out
    case c2 => rw [List.length_map]; unfold maxLen; omega
    case c3 =>
      intro w4 hm4 hg4 hs4
      have hch : Chg (fun x => x = mb) w3 w4 := Chg.of_grown hg4 (fun x hx _ => (Option.some.inj hx).symm)
      have hq4 := HN2.out.mapped hch
      rw [← lbs_put] at hm4
      have HE : Hid (∃ mv', QsL w0 w4 qb mv' g st n L ∧ MapIs w4 mv' (dropK M k ++ [(k, lb)]) ∧ QTo w (qAll qb (some mb) L g) w4 (qAll qb mv' L g)) := Lib.hid ⟨some mb, hq4, hm4, HQ2.out.trans ⟨hch.wide (fun x _ hx => .inl (hx ▸ mem_qfoot_mv rfl)), fun x hx => .inl hx⟩⟩
      clear hm4 hg4 hs4 hch hq4
      go_wp2_with fail
      go_end0
      exact ⟨rfl, HE.out⟩
theorem lbs_drop (L : List (QK × LnM)) (k : QK) (x : LnM) : lbs (dropK L k ++ [(k, x)]) = dropK (lbs L) k ++ [(k, x.lb)] := by
  unfold lbs dropK
  rw [List.map_append, List.filter_map]
  rfl
def addE (x : LnM) (p : PlM) : LnM := { x with es := x.es ++ [p] }
theorem bytesE_snoc {l : List PlM} {p : PlM} {k : Nat} (hk : k ≤ l.length) : bytesE ((l ++ [p]).drop k) = bytesE (l.drop k) ++ p.bs := by
  rw [List.drop_append_of_le_length hk, bytesE_app]
  show _ ++ (p.bs ++ []) = _
  rw [List.append_nil]
def QAppTo (w0 w : World) (qb : Nat) (mv : Option Nat) (g : Gh) (st : St) (n : Nat) (D : List (QK × LnM)) (k : QK) (x : LnM) (p : PlM) (w' : World) : Prop :=
  ∃ g' st', QsL w0 w' qb mv g' st' (n + 2) (D ++ [(k, addE x p)]) ∧ QTo w (qAll qb mv (D ++ [(k, x)]) g) w' (qAll qb mv (D ++ [(k, addE x p)]) g') ∧ st'.size = st.size + 20 ∧ st'.cap = st.cap ∧ (∀ M, MapIs w mv M → MapIs w' mv M) ∧ Others (hdQ k) st st' ∧ g'.d = g.d
theorem foot_addE (qb : Nat) (mv : Option Nat) (D : List (QK × LnM)) (k : QK) (x : LnM) (p : PlM) : qfoot qb mv (D ++ [(k, addE x p)]) = qfoot qb mv (D ++ [(k, x)]) := by
  unfold qfoot
  rw [List.flatMap_append, List.flatMap_append]
  rfl
theorem qappend_any {w0 w : World} {qb : Nat} {mv : Option Nat} {g : Gh} {st : St} {n : Nat} {D : List (QK × LnM)} {k : QK} {x : LnM} (h : QsL w0 w qb mv g st n (D ++ [(k, x)])) {r : Nat} (hr : x.row = some r) (hn : n ≤ 100000) (p : PlM) (hp : p.fit = true) (hcap : st.size + 20 ≤ st.cap) :
    Calls Tryz.prog 36 #[.pointer (some ⟨r, 0, none⟩), .string p.tx] w fun e w' => e = .returned (.tuple #[.int .i64 ((20 * x.es.length : Nat) : Int), .int .i64 0]) ∧ QAppTo w0 w qb mv g st n D k x p w' := by
  have hxm : (k, x) ∈ D ++ [(k, x)] := List.mem_append_right _ (List.mem_singleton.2 rfl)
  have hl : LnOk w0 w g st n k x := h.ln _ hxm
  obtain ⟨m, i0, j, hrw⟩ := hl.row r hr
  obtain ⟨he1, he2⟩ := hl.end_ hrw
  have hrm := hrw.rc.row.room_eq
  have hel := hl.el
  have hlo := hrw.lo
  have hlo2 := hl.lo
  have hlob := hl.lob
  have e2 := hrw.rc.row.e2
  have e1 := hrw.rc.row.e1
  have hts := PlM.tx_size hp
  rw [he1] at hrm e2 e1
  have hc := c_append hrw.rg hrw.rc (by omega) p.tx (by omega) (by rw [hts, hrm.1]; omega) (by omega) (by omega)
  rw [he1] at hc
  refine hc.mono ?_
  rintro e w' ⟨rfl, g', m', st', a1, a2, a3, a4, a5, a6, a7, a8⟩
  rw [hrw.hd] at a3
  have hb : bytesE (x.es.drop (10 * i0)) ++ p.tx.data.toList = bytesE ((x.es ++ [p]).drop (10 * i0)) := (bytesE_snoc (by omega)).symm
  rw [hb] at a6
  have hq := h.step (x' := addE x p) (n' := n + 2) (by omega) hr a1 a2 a3 a6 (a4.trans hrw.hd) rfl rfl rfl rfl hrw.lo (by show x.lo ≤ x.base + (x.es ++ [p]).length; rw [List.length_append]; omega) (by show (x.es ++ [p]).length ≤ _; rw [List.length_append]; simp; omega) (by show _ ≤ (x.es ++ [p]).length; rw [List.length_append]; omega) (fun z hz => by
    rcases List.mem_append.1 hz with a | a
    · exact hl.fit z a
    · rw [List.mem_singleton] at a; rw [a]; exact hp)
  have hrf : r ∈ qfoot qb mv (D ++ [(k, x)]) := mem_qfoot_row hxm hr
  refine ⟨rfl, g', st', hq, ⟨a2.chg.wide (fun q _ hx => hx.elim (fun a => .inl (a ▸ hrf)) (fun a => .inr a)), fun q hx => ?_⟩, by rw [a7, hts], a8, fun M hM => hM.keep (fun mb hmb => ?_), a3, a2.d⟩
  · unfold qAll at hx
    rw [foot_addE] at hx
    rcases hx with a | a
    · exact .inl (.inl a)
    · rcases a2.fp q a with b | b
      · exact .inl (.inr b)
      · exact .inr b
  · subst hmb
    obtain ⟨h1, _⟩ := qs_apart h
    refine a2.chg.block _ hM.lt (fun hx => hx.elim (fun a => (h1 mb rfl).2 _ hxm ?_) (fun a => h.out mb (mem_qfoot_mv rfl) a))
    rw [a]
    unfold LnM.foot
    rw [hr]
    simp
def QAddTo (w0 w : World) (qb : Nat) (mv : Option Nat) (g : Gh) (st : St) (n : Nat) (L : List (QK × LnM)) (k : QK) (p : PlM) (e : Ending) (w' : World) : Prop :=
  ∃ x' mv' g' st', e = .returned (.tuple #[.int .i64 (((lnD L k).base + (lnD L k).es.length : Nat) : Int), .int .i64 0]) ∧ QsI w0 w' qb mv' g' st' (n + 2) (dropK L k ++ [(k, x')]) ∧ QTo w (qAll qb mv L g) w' (qAll qb mv' (dropK L k ++ [(k, x')]) g') ∧ st'.size = st.size + 20 ∧ st'.cap = st.cap ∧
    x'.base = (lnD L k).base ∧ x'.least = (lnD L k).least ∧ x'.es = (lnD L k).es ++ [p] ∧ x'.lo = (lnD L k).lo ∧ Others (hdQ k) st st' ∧ g'.d = g.d
theorem lnD_lo {L : List (QK × LnM)} (h : ∀ p ∈ L, p.2.lo ≤ p.2.least) (k : QK) : (lnD L k).lo ≤ (lnD L k).least := by
  unfold lnD
  cases hg : getK L k with
  | none => exact Nat.le_refl _
  | some x => exact h _ (getK_mem hg)
theorem lnD_el {w0 w : World} {qb : Nat} {mv : Option Nat} {g : Gh} {st : St} {n : Nat} {L : List (QK × LnM)} (h : QsL w0 w qb mv g st n L) (k : QK) : (lnD L k).es.length ≤ n ∧ (lnD L k).base ≤ 1099511627776 := by
  unfold lnD
  cases hg : getK L k with
  | none => exact ⟨Nat.zero_le _, Nat.zero_le _⟩
  | some x => exact ⟨(h.ln _ (getK_mem hg)).el, (h.ln _ (getK_mem hg)).bb⟩
set_option maxHeartbeats 4000000 in
set_option maxRecDepth 100000 in
theorem qadd_any {w0 w : World} {qb : Nat} {mv : Option Nat} {g : Gh} {st : St} {n : Nat} {L : List (QK × LnM)} (h : QsI w0 w qb mv g st n L) (hL : L.length ≤ 1000000) (hn : n ≤ 100000) (k' : QK) (t : ByteArray) (q : Nat) (hk1 : k'.1.1 = t) (hk2 : k'.1.2 = (q : Int)) (ht : topicB t = true) (hq : q ≤ 2) (p : PlM) (hp : p.fit = true) (hcap : st.size + 20 ≤ st.cap) :
    Calls Tryz.prog 112 #[.pointer (some ⟨qb, 0, none⟩), .string t, .int .i64 (q : Int), p.val] w (QAddTo w0 w qb mv g st n L k' p) := by
  have ht16 := (topic_small ht).2
  have hR := fun W => qrefuses_any qb t (by unfold maxLen; omega) (q : Int) W
  rw [show refQ t (q : Int) = 0 from by unfold refQ; rw [if_pos ht, if_pos (by omega)]] at hR
  have hP := fun W => placePut_any p.a p.b p.c p.d W
  unfold PutPost at hP
  rw [show fit4 [6, 2, 5, 7] [p.a, p.b, p.c, p.d] = true from hp, show put4 [6, 2, 5, 7] [p.a, p.b, p.c, p.d] = p.tx from rfl] at hP
  obtain ⟨s, hs⟩ : ∃ s, s = p.tx := ⟨_, rfl⟩
  rw [← hs] at hP
  have HPS := Lib.hid hs
  have HP := Lib.hid hP
  have HR := Lib.hid hR
  have HFIT := Lib.hid hp
  have HKV : Hid (k'.kv = .agg #[.string t, .int .i64 (q : Int)]) := Lib.hid (by unfold QK.kv; rw [hk1, hk2])
  have HOP : Hid (∀ W, Chg (fun _ => False) w W → Calls Tryz.prog 154 #[.pointer (some ⟨qb, 0, none⟩), .agg #[.string t, .int .i64 (q : Int)]] W (QOpenTo w0 W qb mv g st n L k')) := Lib.hid (fun W hW => qopen_any (h.q.new hW) (h.map.new hW) (by omega) k' t q hk1 hk2 ht hq)
  obtain ⟨hel, hbb⟩ := lnD_el h.q k'
  have HH := Lib.hid h
  obtain ⟨x0, hx0⟩ : ∃ x, x = lnD L k' := ⟨_, rfl⟩
  rw [← hx0] at hel hbb
  have HX0 := Lib.hid hx0
  obtain ⟨res, hres⟩ : ∃ r : Nat, r = x0.base + x0.es.length := ⟨_, rfl⟩
  have HRES := Lib.hid hres
  obtain ⟨pa, pb, pc, pd⟩ := p
  obtain ⟨W0, hW0⟩ : ∃ W, W = w.alloc (.cells #[.int .i64 pa, .int .i64 pb, .int .i64 pc, .int .i64 pd] 54) := ⟨_, rfl⟩
  have hb0 : Below w.heap.size w W0 := hW0 ▸ (Below.refl _ _).alloc (Nat.le_refl _) _
  have k0 : W0.cell? ⟨w.heap.size, 0, none⟩ = some (.int .i64 pa) := hW0 ▸ cells4 w pa pb pc pd _ 0 (by decide)
  have k1 : W0.cell? ⟨w.heap.size, 1, none⟩ = some (.int .i64 pb) := hW0 ▸ cells4 w pa pb pc pd _ 1 (by decide)
  have k2 : W0.cell? ⟨w.heap.size, 2, none⟩ = some (.int .i64 pc) := hW0 ▸ cells4 w pa pb pc pd _ 2 (by decide)
  have k3 : W0.cell? ⟨w.heap.size, 3, none⟩ = some (.int .i64 pd) := hW0 ▸ cells4 w pa pb pc pd _ 3 (by decide)
  have HW0 := Lib.hid hW0
  have HB0 := Lib.hid hb0
  clear hR hP hs hk1 hk2 ht h hx0 hres hW0 hb0 hp
  unfold PlM.val
  dsimp only at HP ⊢
  go_enter Tryz.func112, Tryz.ntmps112
  go_upto_region 1 with fail
  rw [← HW0.out]
  go_wp2_with fail
  refine (HR.out _).mono ?_
  rintro e w1 ⟨rfl, hb1⟩
  have HB1 := Lib.hid (HB0.out.trans (hb1.mono HB0.out.size))
  have k0 := keep4 hb1 k0
  have k1 := keep4 hb1 k1
  have k2 := keep4 hb1 k2
  have k3 := keep4 hb1 k3
  clear hb1
  go_wp2_with fail
  refine (HP.out _).mono ?_
  rintro e w2 ⟨rfl, hb2⟩
  have HB2 := Lib.hid (HB1.out.trans (hb2.mono HB1.out.size))
  clear hb2 k0 k1 k2 k3
  obtain ⟨w3, hw3⟩ : ∃ W, W = w2.alloc (.cells #[.string t, .int .i64 (q : Int)] 98) := ⟨_, rfl⟩
  have hb3 : Below w2.heap.size w2 w3 := hw3 ▸ (Below.refl _ _).alloc (Nat.le_refl _) _
  have i0 : w3.cell? ⟨w2.heap.size, 0, none⟩ = some (.string t) := by rw [hw3]; simp
  have i1 : w3.cell? ⟨w2.heap.size, 1, none⟩ = some (.int .i64 (q : Int)) := by rw [hw3]; simp
  have hs3 : w3.heap.size = w2.heap.size + 1 := by rw [hw3, World.size_alloc]
  have hc3 : Chg (fun _ => False) w w3 := (Chg.of_below HB2.out : Chg (fun _ => False) w w2).trans (Chg.of_below hb3) (fun _ _ x => x)
  have HC3 := Lib.hid hc3
  have HW3 := Lib.hid hw3
  clear hb3 hw3 hc3
  go_upto_region 8 with fail
  rw [← HW3.out]
  go_wp2_with fail
  refine (HOP.out _ HC3.out).mono ?_
  rintro e w4 ⟨x', g', rfl, a1, a2, a3, a4, a5, a6, a7, a8, a9⟩
  obtain ⟨r, hr⟩ := Option.isSome_iff_exists.1 a4
  have hidb : ∀ y, qAll qb mv L g y → y < w2.heap.size := fun y hy => Nat.lt_of_lt_of_le (HH.out.q.lt_all y hy) HB2.out.size
  have hnid : ¬ qAll qb mv (dropK L k' ++ [(k', x')]) g' w2.heap.size := fun hx => by
    rcases a3.new _ hx with y | y
    · have := hidb _ y; omega
    · omega
  have i0 := a3.chg.cell (p := ⟨w2.heap.size, 0, none⟩) i0 (fun hx => Nat.lt_irrefl _ (hidb _ hx))
  have i1 := a3.chg.cell (p := ⟨w2.heap.size, 1, none⟩) i1 (fun hx => Nat.lt_irrefl _ (hidb _ hx))
  have hlm : LnOk w0 w4 g' st n k' x' := a1.ln _ (List.mem_append_right _ (List.mem_singleton.2 rfl))
  have hN := qnext_any hlm (by omega)
  rw [a5, a7, ← HX0.out, ← HRES.out] at hN
  have HN := Lib.hid hN
  have hA := qappend_any (a1.new ((Chg.refl (fun _ => False) w4).drewN 0)) hr hn ⟨pa, pb, pc, pd⟩ HFIT.out hcap
  have HA : Hid (∀ y, Calls Tryz.prog 36 #[.pointer (some ⟨r, 0, none⟩), .string s] (w4.drewN y) fun e w' => e = .returned (.tuple #[.int .i64 ((20 * x'.es.length : Nat) : Int), .int .i64 0]) ∧ QAppTo w0 (w4.drewN y) qb mv g' st n (dropK L k') k' x' ⟨pa, pb, pc, pd⟩ w') := Lib.hid (fun y => by
    rw [HPS.out]
    exact qappend_any (a1.new ((Chg.refl _ _).drewN y)) hr hn ⟨pa, pb, pc, pd⟩ HFIT.out hcap)
  obtain ⟨c0, c1, c2, z⟩ := line_cell hlm.at_
  rw [hr] at c0
  unfold optV at c0
  dsimp only [Option.map_some] at c0
  obtain ⟨e20, he20⟩ : ∃ y : Int, y = ((20 * x'.es.length : Nat) : Int) := ⟨_, rfl⟩
  rw [← he20] at HA
  obtain ⟨lb, hlb⟩ : ∃ y, y = x'.lb := ⟨_, rfl⟩
  rw [← hlb] at HN c0 ⊢
  have HLB := Lib.hid hlb
  have HAA := Lib.hid (And.intro a2 (And.intro a3 (And.intro a5 (And.intro a6 (And.intro a7 (And.intro a8 a9))))))
  have HNI := Lib.hid hnid
  clear a1 a2 a3 a4 a5 a6 a7 a8 a9 hr hidb hnid hlm hN hA c1 c2 z he20 hlb
  go_wp2_with fail
  refine HN.out.mono ?_
  rintro e w5 ⟨rfl, y5, rfl⟩
  go_wp2_with fail
  refine (HA.out y5).mono ?_
  rintro e w6 ⟨rfl, g6, st6, b1, b2, b3, b4, b5, b6, b7⟩
  have i0 := b2.chg.cell (p := ⟨w2.heap.size, 0, none⟩) i0 HNI.out
  have i1 := b2.chg.cell (p := ⟨w2.heap.size, 1, none⟩) i1 HNI.out
  have hm6 := b5 _ (HAA.out.1.new ((Chg.refl _ _).drewN y5))
  have hK := qkeep_any b1 hm6 (by unfold lbs; rw [List.length_map]; exact hL) k' t q HKV.out lb
  have HK := Lib.hid hK
  have HBB := Lib.hid (And.intro b2 (And.intro b3 (And.intro b4 (And.intro b6 b7))))
  clear b1 b2 b3 b4 b5 b6 b7 hm6 hK
  go_wp2_with fail
  refine HK.out.mono ?_
  rintro e w7 ⟨rfl, mv', d1, d2, d3⟩
  have HD := Lib.hid (And.intro d1 (And.intro d2 d3))
  clear d1 d2 d3
  go_wp2_with fail
  go_ret2
  obtain ⟨a2, a3, a5, a6, a7, a8, a9⟩ := HAA.out
  obtain ⟨b2, b3, b4, b6, b7⟩ := HBB.out
  obtain ⟨d1, d2, d3⟩ := HD.out
  refine ⟨addE x' ⟨pa, pb, pc, pd⟩, mv', g6, st6, by show Ending.returned (.tuple #[.int .i64 (res : Int), .int .i64 0]) = _; rw [HRES.out, HX0.out], ⟨d1, by rw [lbs_drop]; rw [HLB.out] at d2; exact d2, fun z hz => ?_⟩, ?_, b3, b4, a5, a6, by show x'.es ++ _ = _; rw [a7], a8, b6, b7.trans a9⟩
  · rcases List.mem_append.1 hz with y | y
    · exact HH.out.lo z (List.mem_filter.1 y).1
    · rw [List.mem_singleton] at y
      subst y
      show x'.lo ≤ x'.least
      rw [a8, a6]
      exact lnD_lo HH.out.lo k'
  · exact ((((QTo.of_new HC3.out).trans a3).trans (QTo.of_new ((Chg.refl _ _).drewN y5))).trans b2).trans d3
def seekI (l : List PlM) (F : PlM → Bool) (i : Nat) : Nat := i + ((l.drop i).takeWhile fun p => !F p).length
set_option maxHeartbeats 1000000 in
set_option maxRecDepth 100000 in
theorem qnextq_any {w0 w : World} {qb : Nat} {mv : Option Nat} {g : Gh} {st : St} {n : Nat} {L : List (QK × LnM)} (h : QsI w0 w qb mv g st n L) (hn : n ≤ 100000) (k : QK) :
    Calls Tryz.prog 22 #[.pointer (some ⟨qb, 0, none⟩), .string k.1.1, .int .i64 k.1.2] w fun e w' => e = .returned (.int .i64 (((lnD L k).base + (lnD L k).es.length : Nat) : Int)) ∧ Below w.heap.size w w' := by
  have hF := qfind_any h.q.at_ h.map k
  rw [getK_lbs] at hF
  obtain ⟨res, hres⟩ : ∃ y, y = (lnD L k).base + (lnD L k).es.length := ⟨_, rfl⟩
  rw [← hres]
  obtain ⟨⟨t, q⟩, hk1, hk2⟩ := k
  dsimp only at hF ⊢
  cases hg : getK L ⟨(t, q), hk1, hk2⟩ with
  | none =>
    have hr0 : res = 0 := by rw [hres]; unfold lnD; rw [hg]; rfl
    subst hr0
    rw [hg] at hF
    unfold optV at hF
    dsimp only [Option.map_none] at hF
    have HF := Lib.hid hF
    have HN := Lib.hid (fun W => qnext_nil W)
    clear hF hg hres h
    go_enter Tryz.func22, Tryz.ntmps22
    go_wp2_with fail
    refine HF.out.mono ?_
    rintro e w1 ⟨rfl, hb1⟩
    have HB := Lib.hid hb1
    clear hb1
    go_wp2_with fail
    refine (HN.out _).mono ?_
    rintro e w2 ⟨rfl, rfl⟩
    go_wp2_with fail
    go_ret
    exact ⟨rfl, HB.out⟩
  | some x =>
    have hx : lnD L ⟨(t, q), hk1, hk2⟩ = x := by unfold lnD; rw [hg]; rfl
    rw [hx] at hres
    rw [hg] at hF
    unfold optV at hF
    dsimp only [Option.map_some] at hF
    have HF := Lib.hid hF
    have HN : Hid (∀ W, Below w.heap.size w W → Calls Tryz.prog 43 #[.pointer (some ⟨x.lb, 0, none⟩)] W fun e w' => e = .returned (.int .i64 (res : Int)) ∧ ∃ y, w' = W.drewN y) := Lib.hid (fun W hW => by
      rw [hres]
      exact qnext_any ((h.q.ln _ (getK_mem hg)).new (Chg.of_below hW)) hn)
    clear hF hg hres h hx
    go_enter Tryz.func22, Tryz.ntmps22
    go_wp2_with fail
    refine HF.out.mono ?_
    rintro e w1 ⟨rfl, hb1⟩
    have HB := Lib.hid hb1
    clear hb1
    go_wp2_with fail
    refine (HN.out _ HB.out).mono ?_
    rintro e w2 ⟨rfl, y, rfl⟩
    go_wp2_with fail
    go_ret
    exact ⟨rfl, below_drewN HB.out y⟩
def AtTo (p : PlM) (r : Int) (w : World) (e : Ending) (w' : World) : Prop := e = .returned (.tuple #[p.val, .int .i64 r]) ∧ Below w.heap.size w w'
set_option maxHeartbeats 2000000 in
set_option maxRecDepth 100000 in
theorem qat_ok {w0 w : World} {qb : Nat} {mv : Option Nat} {g : Gh} {st : St} {n : Nat} {L : List (QK × LnM)} (h : QsI w0 w qb mv g st n L) (hn : n ≤ 100000) (k : QK) (a : Nat) (i : Nat) (p : PlM) (hai : a = (lnD L k).base + i) (hp : (lnD L k).es[i]? = some p) (hl : (lnD L k).least ≤ a) :
    Calls Tryz.prog 17 #[.pointer (some ⟨qb, 0, none⟩), .string k.1.1, .int .i64 k.1.2, .int .i64 a] w (AtTo p 0 w) := by
  obtain ⟨ls, hls⟩ : ∃ y, y = (lnD L k).least := ⟨_, rfl⟩
  obtain ⟨nx, hnx⟩ : ∃ y, y = (lnD L k).base + (lnD L k).es.length := ⟨_, rfl⟩
  have hlt0 := (List.getElem?_eq_some_iff.1 hp).1
  have hanx : a < nx := by omega
  rw [← hls] at hl
  obtain ⟨W0, hW0⟩ : ∃ W, W = w.alloc (.cells #[.int .i64 0, .int .i64 0, .int .i64 0, .int .i64 0] 54) := ⟨_, rfl⟩
  have hb0 : Below w.heap.size w W0 := hW0 ▸ (Below.refl _ _).alloc (Nat.le_refl _) _
  have hr : W0.rowIs w.heap.size 54 4 (fun _ => .int .i64 0) := hW0 ▸ row4 w 54
  have h0 := h.new (Chg.of_below hb0 : Chg (fun _ => False) w W0)
  have hF := qfind_any h0.q.at_ h0.map k
  rw [getK_lbs] at hF
  have HFI : Hid (∀ W, Below W0.heap.size W0 W → Calls Tryz.prog 42 #[optV ((getK L k).map (·.lb))] W fun e w' => e = .returned (.int .i64 (ls : Int)) ∧ W = w') := Lib.hid (fun W hW => by
    cases hg : getK L k with
    | none =>
      have : ls = 0 := by rw [hls]; unfold lnD; rw [hg]; rfl
      rw [this]
      exact qfirst_nil W
    | some x =>
      have : ls = x.least := by rw [hls]; unfold lnD; rw [hg]; rfl
      rw [this]
      exact qfirst_any ((h0.q.ln _ (getK_mem hg)).new (Chg.of_below hW)))
  have HNX : Hid (∀ W, Below W0.heap.size W0 W → Calls Tryz.prog 43 #[optV ((getK L k).map (·.lb))] W fun e w' => e = .returned (.int .i64 (nx : Int)) ∧ ∃ y, w' = W.drewN y) := Lib.hid (fun W hW => by
    cases hg : getK L k with
    | none =>
      have : nx = 0 := by rw [hnx]; unfold lnD; rw [hg]; rfl
      rw [this]
      exact (qnext_nil W).mono fun e w' hh => ⟨hh.1, 0, hh.2.symm⟩
    | some x =>
      have : nx = x.base + x.es.length := by rw [hnx]; unfold lnD; rw [hg]; rfl
      rw [this]
      exact qnext_any ((h0.q.ln _ (getK_mem hg)).new (Chg.of_below hW)) hn)
  have HE : Hid (∀ W, Below W0.heap.size W0 W → Calls Tryz.prog 44 #[optV ((getK L k).map (·.lb)), .int .i64 (a : Int)] W fun e w' => e = .returned (.tuple #[p.val, .int .i64 0]) ∧ Below W.heap.size W w') := Lib.hid (fun W hW => by
    cases hg : getK L k with
    | none =>
      have : (lnD L k).es = [] := by unfold lnD; rw [hg]; rfl
      rw [this] at hp
      cases hp
    | some x =>
      have hx : lnD L k = x := by unfold lnD; rw [hg]; rfl
      rw [hx] at hp hai hls
      rw [hai]
      have := h.lo _ (getK_mem hg)
      exact qentry_any h.q.calm ((h0.q.ln _ (getK_mem hg)).new (Chg.of_below hW)) hn ⟨hp, by have h1 : x.lo ≤ x.least := this; show x.lo ≤ x.base + i; omega⟩)
  obtain ⟨pa, pb, pc, pd⟩ := p
  unfold PlM.val at HE
  dsimp only at HE
  clear hp hlt0 hai
  obtain ⟨⟨t, q⟩, hk1, hk2⟩ := k
  obtain ⟨o, ho⟩ : ∃ o, o = optV ((getK L ⟨(t, q), hk1, hk2⟩).map (·.lb)) := ⟨_, rfl⟩
  dsimp only at hF ⊢
  rw [← ho] at hF HFI HNX HE
  have HF := Lib.hid hF
  have HW0 := Lib.hid hW0
  have HB0 := Lib.hid hb0
  have HR0 := Lib.hid hr
  clear hF h h0 hW0 hb0 hr ho hls hnx
  unfold AtTo PlM.val
  dsimp only
  go_enter Tryz.func17, Tryz.ntmps17
  go_upto_region 1 with fail
  rw [← HW0.out]
  go_wp2_with fail
  refine HF.out.mono ?_
  rintro e w1 ⟨rfl, hb1⟩
  have HB1 := Lib.hid (HB0.out.trans (hb1.mono HB0.out.size))
  have HR1 := Lib.hid (HR0.out.of_block (hb1.block _ HR0.out.lt))
  have HC1 := Lib.hid hb1
  clear hb1
  go_wp2_with fail
  refine (HFI.out w1 HC1.out).mono ?_
  rintro e w2 ⟨rfl, rfl⟩
  go_wp2_with fail
  refine (HNX.out w1 HC1.out).mono ?_
  rintro e w2 ⟨rfl, y, rfl⟩
  have HB2 := Lib.hid (below_drewN HB1.out y)
  have HR2 : Hid ((w1.drewN y).rowIs w.heap.size 54 4 (fun _ => .int .i64 0)) := Lib.hid HR1.out
  have HC2 : Hid (Below W0.heap.size W0 (w1.drewN y)) := Lib.hid (below_drewN HC1.out y)
  go_wp2_with fail
  refine (HE.out _ HC2.out).mono ?_
  rintro e w3 ⟨rfl, hb3⟩
  have HB3 := Lib.hid (HB2.out.trans (hb3.mono HB2.out.size))
  have HR3 := Lib.hid (HR2.out.of_block (hb3.block _ HR2.out.lt))
  clear hb3
  have hr0 := HR3.out.cell (i := 0) (by decide)
  have hr1 := HR3.out.cell (i := 1) (by decide)
  have hr2 := HR3.out.cell (i := 2) (by decide)
  have hr3 := HR3.out.cell (i := 3) (by decide)
  have hf0 := HR3.out.frozen 0
  have hf1 := HR3.out.frozen 1
  have hf2 := HR3.out.frozen 2
  have hf3 := HR3.out.frozen 3
  have hlt := HR3.out.lt
  go_wp2_with fail
  obtain ⟨W4, hW4⟩ : ∃ W, W = (((w3.setCell ⟨w.heap.size, 0, none⟩ (.int .i64 pa)).setCell ⟨w.heap.size, 1, none⟩ (.int .i64 pb)).setCell ⟨w.heap.size, 2, none⟩ (.int .i64 pc)).setCell ⟨w.heap.size, 3, none⟩ (.int .i64 pd) := ⟨_, rfl⟩
  have hB4 := below_set4 HB3.out (Nat.le_refl _) hW4
  obtain ⟨g0, g1, g2, g3⟩ := set4 HR3.out _ _ _ _ hW4
  rw [← hW4]
  refine bodyPost_ret (v := .tuple #[.agg #[.int .i64 pa, .int .i64 pb, .int .i64 pc, .int .i64 pd], .int .i64 0]) ?_ rfl ⟨rfl, hB4⟩
  clear hW4 hB4 hr0 hr1 hr2 hr3 hf0 hf1 hf2 hf3
  simp [results, Tryz.results17, go_sem, g0, g1, g2, g3]
def qH : ByteArray := ⟨#[113, 45]⟩
theorem namesS_of {head : ByteArray} {st : St} {p : ByteArray × FileM} (hp : p ∈ st.fs) (hh : Lib.hasPrefix p.1.data.toList head.data.toList = true) : p.1 ∈ namesS head st := by
  unfold namesS
  refine List.mem_map.2 ⟨p.1.data.toList, ?_, by rw [Array.toArray_toList]⟩
  rw [List.mem_mergeSort]
  exact List.mem_map.2 ⟨p, List.mem_filter.2 ⟨hp, hh⟩, rfl⟩
theorem deleteAll_gone : ∀ (ts : List ByteArray) (st : St) (p : ByteArray × FileM), p ∈ (deleteAll st ts).fs → p.1 ∉ ts
  | [], _, _, _ => fun hx => by cases hx
  | t :: ts, st, p, hp => fun hx => by
    have hp : p ∈ (deleteAll (removeS st t) ts).fs := hp
    rcases List.mem_cons.1 hx with h | h
    · have h1 : p ∈ (removeS st t).fs := deleteAll_sub ts _ p hp
      have h2 : p ∈ dropF st.fs t := h1
      have := (List.mem_filter.1 h2).2
      simp at this
      exact this h
    · exact deleteAll_gone ts _ p hp h
def qNewS (st : St) : St := deleteAll st (namesS qH st)
def QNewTo (w0 w : World) (g : Gh) (st : St) (n : Nat) (e : Ending) (w' : World) : Prop :=
  ∃ qb g', e = .returned (.tuple #[.pointer (some ⟨qb, 0, none⟩), .int .i64 0]) ∧ w.heap.size ≤ qb ∧ QsI w0 w' qb none g' (qNewS st) n [] ∧ Gh.To w g g' w'
theorem qs_empty {w0 w3 : World} {qb : Nat} {g3 : Gh} {st3 : St} {n : Nat} (hs : w0.heap.size ≤ qb) (hlt : qb < w3.heap.size) (hd : DiskG w0 w3 g3.d g3 st3) (ht : Tab10 w0) (hk : Calm n st3) (hnm : ∀ p ∈ st3.fs, p.1.size ≤ 1048576) (hq : w3.heap[qb]? = some (.cells #[.pointer (some ⟨g3.d, 0, none⟩), .map none] 124 (0, 0))) (hout : qb ∉ g3.fp)
    (hno : ∀ f ∈ st3.fs, Lib.hasPrefix f.1.data.toList qHead = false) : QsI w0 w3 qb none g3 st3 n [] := by
  have hm : ∀ q, q ∈ qfoot qb none [] → q = qb := fun q hq => by simpa [qfoot] using hq
  refine ⟨⟨hd, ht, hk, hnm, hq, List.nodup_nil, (fun p hp => by cases hp), by simp [qfoot], fun q hq => ?_, fun q hq => ?_, fun q hq => ?_, fun f hf hx => ?_⟩, rfl, (fun p hp => by cases hp)⟩
  · rw [hm q hq]; exact hs
  · rw [hm q hq]; exact hlt
  · rw [hm q hq]; exact hout
  · rw [hno f hf] at hx; cases hx
set_option maxHeartbeats 2000000 in
set_option maxRecDepth 100000 in
theorem qnew_any {w0 w : World} {d : Nat} {g : Gh} {st : St} {n : Nat} (hd : DiskG w0 w d g st) (ht : Tab10 w0) (hk : Calm n st) (hn : n ≤ 1000) (hnm : ∀ p ∈ st.fs, p.1.size ≤ 1048576) :
    Calls Tryz.prog 25 #[.pointer (some ⟨d, 0, none⟩)] w (QNewTo w0 w g st n) := by
  obtain ⟨W1, hW1⟩ : ∃ W, W = w.alloc (.cells #[.pointer (some ⟨d, 0, none⟩), .map none] 124) := ⟨_, rfl⟩
  have hc1 : Chg (fun _ => False) w W1 := hW1 ▸ Chg.alloc _ (Chg.refl _ _) _
  have hq1 : W1.heap[w.heap.size]? = some (.cells #[.pointer (some ⟨d, 0, none⟩), .map none] 124 (0, 0)) := by rw [hW1]; exact heap_alloc_new w _
  have hd1 := hd.new hc1
  have hout : w.heap.size ∉ g.fp := fun hx => (by have := hd.disk.lt _ hx; omega)
  have hfound : ∀ t ∈ namesS qH st, (st.find t).isSome = true := fun t ht => find_some_mem (namesS_mem ht)
  have hlen : (namesS qH st).length ≤ 1048576 := by have := namesS_length qH st; have := hk.good.len; omega
  have hL := list_strs g st qH W1 hd1.disk (by have := hk.good.len; omega)
  have hDL : ∀ W v, DiskAt W g st → Strs W W1.heap.size v (namesS qH st) → Calls Tryz.prog 56 #[.pointer (some ⟨g.d, 0, none⟩), v] W (OpTo g 0 (qNewS st) W) := fun W v hdW hsv => by
    have := delete_any g st v _ W hdW (strs_up hsv (Nat.zero_le _)) (fun q o len cap hv h0 hx => by
      obtain ⟨a, c, e, h⟩ := hsv
      rw [e] at hv
      cases hv
      rcases h with h | ⟨q', o', hq, hb, _⟩
      · rw [h] at h0; exact absurd h0 (by simp)
      · cases hq
        have h1 := hd.disk.lt _ hx
        have h2 := hc1.size
        omega) (fun t ht => by
      obtain ⟨p, hp, rfl⟩ := namesS_mem ht
      have := hnm p hp
      unfold maxLen
      omega) (by omega) hk.good.fuse hk.good.sizeOk (by have := hk.good.size; have := hk.good.cap; omega)
    rwa [hk.deleteE hfound, hk.deleteS hfound] at this
  have hsz1 : w.heap.size < W1.heap.size := by rw [hW1, World.size_alloc]; omega
  have hfin : ∀ w3 g3, DiskAt w3 g3 (qNewS st) → Gh.To W1 g g3 w3 → QsI w0 w3 w.heap.size none g3 (qNewS st) n [] ∧ Gh.To w g g3 w3 := fun w3 g3 h3 hto => by
    refine ⟨qs_empty hd.chg.size (Nat.lt_of_lt_of_le hsz1 hto.chg.size) ⟨h3, rfl, hd1.chg.trans hto.chg (fun q hq hx => by have := hd.low q hx; omega), fun q hq => ?_⟩ ht (hk.delete _) (fun p hp => hnm p (deleteAll_sub _ _ p hp)) ?_ (fun hx => ?_) (fun f hf => ?_), (Gh.To.new g hc1).trans hto⟩
    · rcases hto.fp q hq with a | a
      · exact hd.low q a
      · have := hd1.chg.size; omega
    · rw [hto.d, hd.d]
      exact hto.chg.heap hq1 hout
    · rcases hto.fp _ hx with a | a
      · exact hout a
      · omega
    · cases hc : Lib.hasPrefix f.1.data.toList qHead with
      | false => rfl
      | true => exact absurd (namesS_of (deleteAll_sub _ _ f hf) hc) (deleteAll_gone _ _ f hf)
  have hnil : namesS qH st = [] → qNewS st = st := fun h => by unfold qNewS; rw [h]; rfl
  obtain ⟨q0, q1, qz⟩ := qs_cell hq1
  obtain ⟨rs, hrs⟩ : ∃ rs, rs = namesS qH st := ⟨_, rfl⟩
  rw [← hrs] at hL hDL hlen hnil
  obtain ⟨n', hn'⟩ : ∃ n', n' = rs.length := ⟨_, rfl⟩
  have hgd := hd.d
  rw [hgd] at hL hDL
  have HN := Lib.hid hn'
  rw [← hn'] at hlen
  have HD1 := Lib.hid hd1
  have HL := Lib.hid hL
  have HDL := Lib.hid hDL
  have HFIN := Lib.hid hfin
  have HNIL := Lib.hid hnil
  have HW1 := Lib.hid hW1
  clear hL hDL hfin hnil hn' hrs hd1 hd hq1 hc1 hW1 hk hnm ht hfound hout qz hgd hn
  go_enter Tryz.func25, Tryz.ntmps25
  go_upto_region 4 with fail
  rw [← HW1.out]
  go_wp2_with fail
  refine HL.out.mono ?_
  rintro e w2 ⟨v, rfl, hs2, hb2⟩
  obtain ⟨ra, rc, hrv⟩ := hs2.form
  rw [← HN.out] at hrv
  subst hrv
  have q0 := keep4 hb2 q0
  have HS2 := Lib.hid hs2
  have HB2 := Lib.hid hb2
  clear hs2 hb2 q1
  by_cases hr0 : n' = 0
  · subst hr0
    go_wp2_with fail
    go_ret2
    have e := HNIL.out (List.length_eq_zero_iff.1 HN.out.symm)
    obtain ⟨r1, r2⟩ := HFIN.out w2 g (by rw [e]; exact (HD1.out.new (Chg.of_below HB2.out)).disk) (Gh.To.new g (Chg.of_below HB2.out))
    exact ⟨_, g, rfl, Nat.le_refl _, r1, r2⟩
  · have hpos : 0 < n' := by omega
    go_wp2_with fail
    refine (HDL.out w2 _ (HD1.out.new (Chg.of_below HB2.out)).disk HS2.out).mono ?_
    rintro e w3 ⟨rfl, g3, hd3, ht3⟩
    have hR := HFIN.out w3 g3 hd3 ((Gh.To.new g (Chg.of_below HB2.out)).trans ht3)
    have HR := Lib.hid hR
    clear hd3 ht3 hR
    go_wp2_with fail
    go_ret2
    exact ⟨_, g3, rfl, Nat.le_refl _, HR.out.1, HR.out.2⟩
theorem qNewS_new (c : Int) : qNewS (newSt c) = newSt c := by
  unfold qNewS
  rw [List.eq_nil_of_length_eq_zero (Nat.le_zero.1 (namesS_length qH (newSt c)))]
  rfl
theorem getK_last {β : Type} (L : List (QK × β)) (k : QK) (x : β) : getK (dropK L k ++ [(k, x)]) k = some x := by
  unfold getK
  rw [List.find?_append]
  have : (dropK L k).find? (fun p => decide (p.1 = k)) = none := List.find?_eq_none.2 fun p hp => by simp [dropK_ne p hp]
  rw [this]
  simp
theorem getK_other {β : Type} (L : List (QK × β)) (k k2 : QK) (x : β) (h : k2 ≠ k) : getK (dropK L k ++ [(k, x)]) k2 = getK L k2 := by
  unfold getK dropK
  rw [List.find?_append, List.find?_filter]
  have e : (fun p : QK × β => !decide (p.1 = k) && decide (p.1 = k2)) = fun p => decide (p.1 = k2) := by
    funext p
    by_cases hp : p.1 = k2
    · simp [hp, h]
    · simp [hp]
  have h2 : ¬ k = k2 := fun hx => h hx.symm
  simp [e, h2]
theorem lnD_last (L : List (QK × LnM)) (k : QK) (x : LnM) : lnD (dropK L k ++ [(k, x)]) k = x := by unfold lnD; rw [getK_last]; rfl
theorem lnD_other (L : List (QK × LnM)) (k k2 : QK) (x : LnM) (h : k2 ≠ k) : lnD (dropK L k ++ [(k, x)]) k2 = lnD L k2 := by unfold lnD; rw [getK_other L k k2 x h]
def dropTo (x : LnM) (nl : Nat) : LnM := { x with lo := nl }
def funTrim (z : Int) (p : PlM) : Bool := decide (z ≤ p.a)
end Go.Proofs.YtdnhgodfmjapmaaGreatDoor
namespace Go.Proofs.YtdnhgodfmjapmaaGreatDoor
open Go.RowKit Go.Deep
open Classical
def tTo (z : Int) (x : LnM) : Nat := x.base + seekI x.es (funTrim z) (x.least - x.base)
def dT (z : Int) (x : LnM) : LnM := dropTo x (tTo z x)
end Go.Proofs.YtdnhgodfmjapmaaGreatDoor
