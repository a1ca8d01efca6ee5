/-
  The contract of awake.
-/
import Derived.Test.YtgephceihkkokaaGreatDoorDCrash
import Derived.Test.YtgephceihkkokaaGreatDoorDWrite
import Derived.Test.YtgephceihkkokaaGreatDoorDSyncD
import Derived.Test.YtgephceihkkokaaGreatDoorDCreate
import Derived.Test.YtgephceihkkokaaGreatDoorDRead
namespace Go.Proofs.YtgephceihkkokaaGreatDoor
open Go.RowKit Go.Deep
attribute [local go_sem] fr_opt

/-- A disk that lies wholly above where the call began. -/
structure AwG (w0 w : World) (g : Gh) (st : St) : Prop where
  d : g.d = w0.heap.size
  at_ : DiskAt w g st
  chg : Chg (fun _ => False) w0 w
  low : ∀ k ∈ g.fp, w0.heap.size ≤ k
theorem AwG.drew {w0 w : World} {g : Gh} {st : St} (h : AwG w0 w g st) : AwG w0 w.drew g st := ⟨h.d, h.at_.drew, h.chg.drew, h.low⟩
theorem AwG.new {w0 w w' : World} {g : Gh} {st : St} (h : AwG w0 w g st) (hc : Chg (fun _ => False) w w') : AwG w0 w' g st :=
  ⟨h.d, h.at_.new hc, h.chg.trans hc (fun _ _ x => x), h.low⟩
theorem AwG.to {w0 w w' : World} {g g' : Gh} {st st' : St} (h : AwG w0 w g st) (hd : DiskAt w' g' st') (ht : Gh.To w g g' w') : AwG w0 w' g' st' := by
  have hs := h.chg.size
  refine ⟨ht.d.trans h.d, hd, h.chg.trans ht.chg (fun i hi hx => ?_), fun k hk => ?_⟩
  · have := h.low i hx
    omega
  · rcases ht.fp k hk with h1 | h1
    · exact h.low k h1
    · omega
theorem AwG.start {c : Int} {w w' : World} (hd : DiskAt w' ⟨w.heap.size, none, []⟩ (newSt c)) (hb : Below w.heap.size w w') : AwG w w' ⟨w.heap.size, none, []⟩ (newSt c) :=
  ⟨rfl, hd, Chg.of_below hb, fun k hk => by simp [Gh.fp] at hk; omega⟩
/-- What an operation does to such a disk. -/
def AwTo (w0 : World) (k : Int) (st : St) (e : Ending) (w' : World) : Prop := e = .returned (.int .i64 k) ∧ ∃ g, AwG w0 w' g st
theorem AwG.op {w0 w : World} {g : Gh} {st : St} (h : AwG w0 w g st) {k : Int} {st' : St} {e : Ending} {w' : World} (ht : OpTo g k st' w e w') : AwTo w0 k st' e w' := by
  obtain ⟨rfl, g', hd, hto⟩ := ht
  exact ⟨rfl, g', h.to hd hto⟩

def aF : ByteArray := ⟨#[102]⟩
def aS1 : St := ⟨false, false, 0, 100, 0, 0, [(aF, ⟨[], [], []⟩)]⟩
def aS2 : St := ⟨false, false, 0, 100, 2, 1, [(aF, ⟨[], [97, 98], [⟨1, 0, ⟨#[97, 98]⟩⟩]⟩)]⟩
def aS3 : St := ⟨false, false, 0, 100, 2, 1, [(aF, ⟨[97, 98], [97, 98], []⟩)]⟩
def aS4 : St := ⟨false, false, 0, 100, 4, 2, [(aF, ⟨[97, 98], [97, 98, 99, 100], [⟨2, 2, ⟨#[99, 100]⟩⟩]⟩)]⟩
def aS5 : St := ⟨false, false, 0, 100, 2, 2, [(aF, ⟨[97, 98], [97, 98], []⟩)]⟩

theorem aw_create {w0 w : World} {g : Gh} (h : AwG w0 w g (newSt 100)) : Calls Tryz.prog 25 #[.pointer (some ⟨w0.heap.size, 0, none⟩), .string ⟨#[102]⟩] w (AwTo w0 0 aS1) := by
  have hc := create_any g (newSt 100) aF w h.at_ (by decide) ⟨by decide, by decide⟩ (by decide)
  rw [h.d] at hc
  exact hc.mono fun e w' hh => h.op (hh.congr (by rfl) (by rfl))
theorem aw_write1 {w0 w : World} {g : Gh} (h : AwG w0 w g aS1) : Calls Tryz.prog 26 #[.pointer (some ⟨w0.heap.size, 0, none⟩), .string ⟨#[102]⟩, .int .i64 0, .string ⟨#[97, 98]⟩] w (AwTo w0 0 aS2) := by
  have hc := write_any g aS1 aF 0 ⟨#[97, 98]⟩ w h.at_ (by decide) ⟨by decide, by decide⟩ (by decide) (by decide) (by decide) (by decide)
    (fun f hf => by have : f = ⟨[], [], []⟩ := (Option.some.inj hf).symm; subst this; decide)
  rw [h.d] at hc
  exact hc.mono fun e w' hh => h.op (hh.congr (by rfl) (by rfl))
theorem aw_sync {w0 w : World} {g : Gh} (h : AwG w0 w g aS2) (v : Value) (hs : Strs w 0 v [aF]) (ho : Out g v) : Calls Tryz.prog 40 #[.pointer (some ⟨w0.heap.size, 0, none⟩), v] w (AwTo w0 0 aS3) := by
  have hc := syncd_any g aS2 v [aF] w h.at_ hs ho (by decide) (by decide) ⟨by decide, by decide⟩ (by unfold AllIn Within; decide)
  rw [h.d] at hc
  exact hc.mono fun e w' hh => h.op (hh.congr (by rfl) (by rfl))
theorem aw_write2 {w0 w : World} {g : Gh} (h : AwG w0 w g aS3) : Calls Tryz.prog 26 #[.pointer (some ⟨w0.heap.size, 0, none⟩), .string ⟨#[102]⟩, .int .i64 2, .string ⟨#[99, 100]⟩] w (AwTo w0 0 aS4) := by
  have hc := write_any g aS3 aF 2 ⟨#[99, 100]⟩ w h.at_ (by decide) ⟨by decide, by decide⟩ (by decide) (by decide) (by decide) (by decide)
    (fun f hf => by have : f = ⟨[97, 98], [97, 98], []⟩ := (Option.some.inj hf).symm; subst this; decide)
  rw [h.d] at hc
  exact hc.mono fun e w' hh => h.op (hh.congr (by rfl) (by rfl))
theorem keepL_nil (l : List WaitM) : keepL l [] = [] := by cases l <;> rfl
theorem crashS_skel {g : Gh} {st : St} (h : g.es.map nf = st.fs) : crashS st (g.es.map skel) = ⟨false, false, 0, st.cap, (st.fs.map fun p => (loseF p.2).bytes.length).sum, st.turn, st.fs.map fun p => (p.1, loseF p.2)⟩ := by
  unfold crashS
  rw [← h, List.map_map, List.map_map, List.map_map, List.map_map]
  rfl
theorem aw_crash {w0 w : World} {g : Gh} (h : AwG w0 w g aS4) : Calls Tryz.prog 28 #[.pointer (some ⟨w0.heap.size, 0, none⟩), .agg #[.slice none 0 0, .int .i64 0]] w (fun e w' => e = .returned (.tuple #[]) ∧ ∃ g', AwG w0 w' g' aS5) := by
  have he : ∀ l : List WaitM, imgs (g.es.map skel) (cutLast (keepL l []) 0) = g.es.map skel := fun l => by rw [keepL_nil]; rfl
  have hc := crash_any g aS4 (.slice none 0 0) [] 0 w h.at_ ⟨none, 0, rfl, .inl rfl⟩ (by decide) (by decide) (by unfold AllIn Within; decide) (fun l _ _ => by
    rw [he]
    have h1 := congrArg St.size (crashS_skel h.at_.fs)
    exact Nat.le_trans (Nat.le_of_eq h1) (by decide))
  rw [h.d] at hc
  refine hc.mono ?_
  rintro e w' ⟨rfl, l, g', _, _, hd, ht⟩
  rw [he, crashS_skel h.at_.fs] at hd
  exact ⟨rfl, g', h.to hd ht⟩
theorem aw_all {w0 w : World} {g : Gh} (h : AwG w0 w g aS5) : Calls Tryz.prog 46 #[.pointer (some ⟨w0.heap.size, 0, none⟩), .string ⟨#[102]⟩] w (fun e w' => e = .returned (.tuple #[.string ⟨#[97, 98]⟩, .int .i64 0]) ∧ Chg (fun _ => False) w0 w') := by
  have hc := all_any g aS5 aF w h.at_ (by decide)
  rw [h.d] at hc
  refine hc.mono ?_
  rintro e w' ⟨rfl, hb⟩
  exact ⟨rfl, h.chg.trans (Chg.of_below hb) (fun _ _ x => x)⟩

end Go.Proofs.YtgephceihkkokaaGreatDoor
