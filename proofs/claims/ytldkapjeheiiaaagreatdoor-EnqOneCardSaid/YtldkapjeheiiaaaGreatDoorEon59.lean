/- A part. -/
import Derived.Test.YtldkapjeheiiaaaGreatDoorEon32
import Derived.Test.YtldkapjeheiiaaaGreatDoorEon58
set_option linter.unusedVariables false
set_option linter.unusedSimpArgs false
namespace Go.Proofs.YtldkapjeheiiaaaGreatDoor
open Go.RowKit Go.Deep
attribute [local go_sem] fr_opt
theorem EnI.base {w0 w1 w : World} {B : EnB} {z : EnG} (h : EnI w1 w B z) (hc : Chg (fun _ => False) w0 w1) (ht : Tab10 w0) : EnI w0 w B z := by
  have hs := hc.size
  have hp := h.plow
  have h1 := h.low
  refine ⟨h.at_, by omega, ?_, h.pe, ⟨by omega, by omega⟩, h.lg.base hc, h.row, fun g hg => Nat.le_trans hs (h.rlow g hg), h.ap⟩
  have := h.tp
  unfold TpI at this ⊢
  exact { this with tg := this.tg.base hc ht }
theorem EnA.base {w0 w1 w : World} {B : EnB} {z : EnG} {done rest : List RcM} {k j : Nat} (h : EnA w1 w B z done rest k j) (hc : Chg (fun _ => False) w0 w1) (ht : Tab10 w0) : EnA w0 w B z done rest k j := { h with i := h.i.base hc ht }
structure Two (w0 w : World) (B1 : EnB) (z1 : EnG) (d1 r1 : List RcM) (rb1 : Nat) (B2 : EnB) (z2 : EnG) (d2 r2 : List RcM) (rb2 k : Nat) : Prop where
  a1 : EnA w0 w B1 z1 d1 r1 k 0
  a2 : EnA w0 w B2 z2 d2 r2 k 0
  g1 : RigI w rb1 B1 z1
  g2 : RigI w rb2 B2 z2
  o1 : OutE w B1 z1 rb2
  o2 : OutE w B2 z2 rb1
  ap : ∀ q, z1.own B1 q → ¬ z2.own B2 q
section
variable {w0 w w' : World} {B1 B2 : EnB} {z1 z2 z1' z2' : EnG} {d1 r1 d2 r2 d1' r1' d2' r2' : List RcM} {rb1 rb2 k : Nat}
theorem Two.new (h : Two w0 w B1 z1 d1 r1 rb1 B2 z2 d2 r2 rb2 k) (hc : Chg (fun _ => False) w w') : Two w0 w' B1 z1 d1 r1 rb1 B2 z2 d2 r2 rb2 k :=
  ⟨h.a1.new hc, h.a2.new hc, h.g1.new hc, h.g2.new hc, h.o1.new hc, h.o2.new hc, h.ap⟩
theorem Two.more {k' : Nat} (h : Two w0 w B1 z1 d1 r1 rb1 B2 z2 d2 r2 rb2 k) (hk : k ≤ k') : Two w0 w B1 z1 d1 r1 rb1 B2 z2 d2 r2 rb2 k' := { h with a1 := h.a1.more hk (Nat.le_refl _), a2 := h.a2.more hk (Nat.le_refl _) }
theorem Two.swap (h : Two w0 w B1 z1 d1 r1 rb1 B2 z2 d2 r2 rb2 k) : Two w0 w B2 z2 d2 r2 rb2 B1 z1 d1 r1 rb1 k := ⟨h.a2, h.a1, h.g2, h.g1, h.o2, h.o1, fun q a b => h.ap q b a⟩
theorem Two.first (h : Two w0 w B1 z1 d1 r1 rb1 B2 z2 d2 r2 rb2 k) (ha : EnA w0 w' B1 z1' d1' r1' k 0) (hq : QTo w (z1.own B1) w' (z1'.own B1)) : Two w0 w' B1 z1' d1' r1' rb1 B2 z2 d2 r2 rb2 k := by
  refine ⟨ha, h.a2.away hq.chg (fun q a b => h.ap q b a) (fun q b => h.a1.i.lowAll q b), h.g1.qt hq, h.g2.chg hq.chg h.o1.2, (h.o1.to hq).1, ⟨Nat.lt_of_lt_of_le h.o2.1 hq.chg.size, h.o2.2⟩, fun q a b => ?_⟩
  rcases hq.new q a with c | c
  · exact h.ap q c b
  · have := h.a2.i.lt q b
    omega
end
structure OneJ (w0 w : World) (B1 : EnB) (z1 : EnG) (rb1 : Nat) (B2 : EnB) (z2 : EnG) (rb2 k h : Nat) (rs : List RcM) : Prop where
  t : Two w0 w B1 z1 [] rs rb1 B2 z2 [] rs rb2 k
  l : z2.x.l = z1.x.l
  M : z2.M = z1.M
  hd : z2.hd = z1.hd
  w1 : z1.ws = [] ∧ z1.L = []
  w2 : z2.ws = [] ∧ z2.L = []
structure HalfJ (w0 w : World) (B1 : EnB) (z1 : EnG) (rb1 : Nat) (B2 : EnB) (z2 : EnG) (rb2 k h : Nat) (rs : List RcM) (M : MsgM) : Prop where
  ex : ∃ r1, Two w0 w B1 z1 [] (rs ++ r1) rb1 B2 z2 [] rs rb2 (k + 1) ∧
    (r1 = [] ∧ (M.kind = 0 ∨ putO M = none) ∧ z1.x.l = z2.x.l ∧ z1.M = z2.M ∨ ∃ bs, M.kind ≠ 0 ∧ putO M = some bs ∧ r1 = [⟨idL z2.x.l bs, bs.length, M⟩] ∧ z1.x.l = z2.x.l ++ itemsL z2.x.l M bs ∧ z1.M = (noteP z2.M ((idL z2.x.l bs : Nat) : Int) M.kind M.due M.ref).2)
  b2 : EnA w0 w B2 z2 [] rs k 0
  hd : z2.hd = z1.hd
  w1 : z1.ws = [] ∧ z1.L = []
  w2 : z2.ws = [] ∧ z2.L = []
section
variable {w0 w w' : World} {B1 B2 : EnB} {z1 z2 : EnG} {rb1 rb2 k h : Nat} {rs : List RcM}
theorem OneJ.new (i : OneJ w0 w B1 z1 rb1 B2 z2 rb2 k h rs) (hc : Chg (fun _ => False) w w') : OneJ w0 w' B1 z1 rb1 B2 z2 rb2 k h rs := { i with t := i.t.new hc }
theorem OneJ.add1 (i : OneJ w0 w B1 z1 rb1 B2 z2 rb2 k h rs) (hk : k ≤ 100) (M : MsgM) (vk : Value) (hks : Strs w 0 vk M.keys) (hcap : CapOk vk) (hs : Sound M) :
    Calls Tryz.prog 12 #[.agg (rigC B1), M.val vk] w fun e w' => ∃ x y, e = .returned (.tuple #[.int .i64 x, .bool y]) ∧ ∃ z', HalfJ w0 w' B1 z' rb1 B2 z2 rb2 k h rs M ∧ QTo w (z1.own B1) w' (z'.own B1) := by
  refine (eadd_any i.t.a1 hk M vk hks hcap hs).mono ?_
  rintro e w' (⟨q, rfl, hc⟩ | ⟨bs, z', p1, p2, rfl, hA, hq, a1, a2, a3, a4, a5, a6, a7, a8⟩)
  · exact ⟨_, _, rfl, z1, ⟨⟨[], by rw [List.append_nil]; exact (i.t.new hc).more (Nat.le_succ _), .inl ⟨rfl, q, i.l.symm, i.M.symm⟩⟩, i.t.a2.new hc, i.hd, i.w1, i.w2⟩, QTo.of_new hc⟩
  · refine ⟨_, _, rfl, z', ⟨⟨_, (i.t.more (Nat.le_succ _)).first hA hq, .inr ⟨bs, p1, p2, by rw [i.l], by rw [i.l]; exact a1, by rw [i.l, i.M]; exact a3⟩⟩, ?_, i.hd.trans a4.symm, ⟨a5.trans i.w1.1, a6.trans i.w1.2⟩, i.w2⟩, hq⟩
    exact i.t.a2.away hq.chg (fun q a b => i.t.ap q b a) (fun q b => i.t.a1.i.lowAll q b)
theorem HalfJ.add2 {M : MsgM} (i : HalfJ w0 w B1 z1 rb1 B2 z2 rb2 k h rs M) (hk : k ≤ 100) (vk : Value) (hks : Strs w 0 vk M.keys) (hcap : CapOk vk) (hs : Sound M) :
    Calls Tryz.prog 12 #[.agg (rigC B2), M.val vk] w fun e w' => ∃ x y, e = .returned (.tuple #[.int .i64 x, .bool y]) ∧ ∃ z' rs', OneJ w0 w' B1 z1 rb1 B2 z' rb2 (k + 1) h rs' := by
  obtain ⟨r1, hT, hx⟩ := i.ex
  refine (eadd_any i.b2 hk M vk hks hcap hs).mono ?_
  rintro e w' (⟨q, rfl, hc⟩ | ⟨bs, z', p1, p2, rfl, hA, hq, a1, a2, a3, a4, a5, a6, a7, a8⟩)
  · rcases hx with ⟨rfl, _, e1, e2⟩ | ⟨bs, p1, p2, _⟩
    · refine ⟨_, _, rfl, z2, rs, ⟨?_, e1.symm, e2.symm, i.hd, i.w1, i.w2⟩⟩
      have := hT.new hc
      rwa [List.append_nil] at this
    · rcases q with q | q
      · exact absurd q p1
      · rw [p2] at q; cases q
  · rcases hx with ⟨_, q, _, _⟩ | ⟨bs', p1', p2', rfl, e1, e2⟩
    · rcases q with q | q
      · exact absurd q p1
      · rw [p2] at q; cases q
    · rw [p2] at p2'
      injection p2' with hbs
      subst hbs
      exact ⟨_, _, rfl, z', _, ⟨(hT.swap.first hA hq).swap, a1.trans e1.symm, a3.trans e2.symm, a4.trans i.hd, i.w1, ⟨a5.trans i.w2.1, a6.trans i.w2.2⟩⟩⟩
end
structure StpJ (w0 w : World) (B1 : EnB) (z1 : EnG) (rb1 : Nat) (B2 : EnB) (z2 : EnG) (rb2 k : Nat) (rs d r : List RcM) (M : PM) (hd : Nat) : Prop where
  t : Two w0 w B1 z1 rs [] rb1 B2 z2 d r rb2 k
  eq : rs = d ++ r
  w1 : z1.ws = (schd rs).flatMap (wsR M hd) ∧ z1.L = (schd rs).flatMap (ltR M hd)
  w2 : z2.ws = (schd d).flatMap (wsR M hd) ∧ z2.L = (schd d).flatMap (ltR M hd)
  M : z2.M = M
  hd : z2.hd = hd
  sy : ∀ x ∈ RS z2, (x.id : Int) < z2.x.m.synced
section
variable {w0 w w' : World} {B1 B2 : EnB} {z1 z2 : EnG} {rb1 rb2 k hd : Nat} {rs d r : List RcM} {M : PM}
theorem StpJ.new (i : StpJ w0 w B1 z1 rb1 B2 z2 rb2 k rs d r M hd) (hc : Chg (fun _ => False) w w') : StpJ w0 w' B1 z1 rb1 B2 z2 rb2 k rs d r M hd := { i with t := i.t.new hc }
theorem StpJ.step (i : StpJ w0 w B1 z1 rb1 B2 z2 rb2 k rs d r M hd) (hk : k ≤ 200) :
    Calls Tryz.prog 14 #[.pointer (some ⟨B2.eb, 0, none⟩)] w fun e w' =>
      (e = .returned (.tuple #[.bool false, .int .i64 0]) ∧ schd rs = schd d ∧ ∃ z', StpJ w0 w' B1 z1 rb1 B2 z' rb2 k rs rs [] M hd) ∨
      (e = .returned (.tuple #[.bool true, .int .i64 0]) ∧ ∃ z' d' r', (schd d').length = (schd d).length + 1 ∧ r'.length < r.length ∧ StpJ w0 w' B1 z1 rb1 B2 z' rb2 k rs d' r' M hd) := by
  refine (enext_any i.t.a2 hk (by decide)).mono ?_
  rintro e w' (⟨d2, r2, z', h1, h2, h3, rfl, h4, h5, h6, h7, h8⟩ | ⟨d2, x, l2, z', h1, h2, h3, h3', rfl, h4, h5, h6, h7, h8⟩)
  · have hr : r2 = [] := AllE.nil i.t.a2 i.sy h1 h3
    subst hr
    rw [List.append_nil] at h1
    subst h1
    have hsd : schd rs = schd d := by rw [i.eq, schd_app, h2, List.append_nil]
    rw [← i.eq] at h4
    refine .inl ⟨rfl, hsd, z', ⟨(i.t.swap.first h4 h5).swap, by simp, i.w1, ⟨by rw [h7, hsd]; exact i.w2.1, by rw [h8, hsd]; exact i.w2.2⟩, h6.M.trans i.M, h6.hd.trans i.hd, ?_⟩⟩
    intro y hy
    rw [h6.x]
    exact i.sy y (by unfold RS at hy ⊢; rwa [h6.x] at hy)
  · have hsd : schd (d ++ (d2 ++ [x])) = schd d ++ [x] := by rw [schd_app, schd_app, h2, schd_one, if_pos h3]; rfl
    refine .inr ⟨rfl, z', _, l2, by rw [hsd, List.length_append]; rfl, by rw [h1, List.length_append, List.length_cons]; omega, ⟨(i.t.swap.first h4 h5).swap, by rw [i.eq, h1]; simp, i.w1, ⟨?_, ?_⟩, h6.M.trans i.M, h6.hd.trans i.hd, ?_⟩⟩
    · rw [h7, hsd, List.flatMap_append, i.w2.1, i.M, i.hd]; simp
    · rw [h8, hsd, List.flatMap_append, i.w2.2, i.M, i.hd]; simp
    · intro y hy
      rw [h6.x]
      exact i.sy y (by unfold RS at hy ⊢; rwa [h6.x] at hy)
end
def LateF (w0 w : World) (B1 : EnB) (z1 : EnG) (d1 r1 : List RcM) (rb1 : Nat) (B2 : EnB) (z2 : EnG) (d2 r2 : List RcM) (rb2 k : Nat) (L : List Int) (c : Nat) (e : Ending) (w' : World) : Prop :=
  ∃ a cap z1', e = .returned (.slice a L.length cap) ∧ z1'.c = c ∧ Two w0 w' B1 z1' d1 r1 rb1 B2 z2 d2 r2 rb2 k ∧ GRow 3 1 ienK w' (.slice a L.length cap) L ∧ (∀ q, (Value.slice a L.length cap).ownBlock = some q → ¬ z2.own B2 q) ∧ Chg (z1.own B1) w w'
theorem late_first {w0 w : World} {B1 B2 : EnB} {z1 z2 : EnG} {d1 r1 d2 r2 : List RcM} {rb1 rb2 k c : Nat} {L : List Int} (h : Two w0 w B1 z1 d1 r1 rb1 B2 z2 d2 r2 rb2 k) (hL : z1.L = L) (hc : z1.c = c) : Calls Tryz.prog 21 #[.pointer (some ⟨B1.eb, 0, none⟩)] w (LateF w0 w B1 z1 d1 r1 rb1 B2 z2 d2 r2 rb2 k L c) := by
  subst hL
  refine (h.a1.late).mono ?_
  rintro e w' ⟨a, cap, rfl, hA, hq, hg, hn⟩
  exact ⟨a, cap, { z1 with v := .slice none 0 0, L := [] }, rfl, hc, h.first hA hq, hg, fun q hx => h.ap q (hn q hx).2.1, hq.chg⟩
structure EndT (w0 w : World) (eb eb2 rb1 rb2 : Nat) (v1 v2 : Value) (L : List Int) (c : Nat) : Prop where
  g1 : GRow 3 1 ienK w v1 L
  g2 : GRow 3 1 ienK w v2 L
  c1 : ∀ W, Chg (fun _ => False) w W → Calls Tryz.prog 23 #[.pointer (some ⟨eb, 0, none⟩)] W fun e w' => e = .returned (.int .i64 (c : Int)) ∧ W = w'
  c2 : ∀ W, Chg (fun _ => False) w W → Calls Tryz.prog 23 #[.pointer (some ⟨eb2, 0, none⟩)] W fun e w' => e = .returned (.int .i64 (c : Int)) ∧ W = w'
  x1 : w.cell? ⟨rb1, 3, none⟩ = some (.pointer (some ⟨eb, 0, none⟩))
  x2 : w.cell? ⟨rb2, 3, none⟩ = some (.pointer (some ⟨eb2, 0, none⟩))
  low : Chg (fun _ => False) w0 w
theorem EndT.of {w0 wa w' : World} {B1 B2 : EnB} {z1' z2 z2' : EnG} {d1 r1 d2 r2 : List RcM} {rb1 rb2 k c : Nat} {L : List Int} {v1 v2 : Value} (h : Two w0 w' B1 z1' d1 r1 rb1 B2 z2' d2 r2 rb2 k) (e1 : z1'.c = c) (e2 : z2'.c = c)
    (g1 : GRow 3 1 ienK wa v1 L) (hn : ∀ q, v1.ownBlock = some q → ¬ z2.own B2 q) (hc : Chg (z2.own B2) wa w') (g2 : GRow 3 1 ienK w' v2 L) : EndT w0 w' B1.eb B2.eb rb1 rb2 v1 v2 L c :=
  ⟨g1.chg hc hn, g2, fun W hW => by have := ecursor_any (h.a1.i.new hW); rwa [e1] at this, fun W hW => by have := ecursor_any (h.a2.i.new hW); rwa [e2] at this, h.g1.cells.2.2.2, h.g2.cells.2.2.2, h.a1.chg⟩
theorem EndT.new {w0 w w' : World} {eb eb2 rb1 rb2 c : Nat} {v1 v2 : Value} {L : List Int} (h : EndT w0 w eb eb2 rb1 rb2 v1 v2 L c) (hc : Chg (fun _ => False) w w') : EndT w0 w' eb eb2 rb1 rb2 v1 v2 L c :=
  ⟨h.g1.new hc, h.g2.new hc, fun W hW => h.c1 W (hc.trans hW (fun _ _ x => x)), fun W hW => h.c2 W (hc.trans hW (fun _ _ x => x)), hc.cell h.x1 (fun x => x), hc.cell h.x2 (fun x => x), h.low.trans hc (fun _ _ x => x)⟩
def LastG (w0 w9 : World) (x : Nat) (B1 B2 : EnB) (z2 : EnG) (rs : List RcM) (rb1 rb2 k : Nat) (L : List Int) (c p : Nat) (u1 u2 : Value) (w : World) : Prop :=
  match p with
  | 0 => Chg (fun _ => False) w9 w
  | 1 => ∃ a cap z1, u1 = .slice a L.length cap ∧ z1.c = c ∧ Two w0 w B1 z1 rs [] rb1 B2 z2 rs [] rb2 k ∧ GRow 3 1 ienK w (.slice a L.length cap) L ∧ ∀ q, (Value.slice a L.length cap).ownBlock = some q → ¬ z2.own B2 q
  | _ + 2 => ∃ v1 v2, u1 = v1 ∧ u2 = v2 ∧ EndT w0 w B1.eb B2.eb rb1 rb2 v1 v2 L c
theorem LastG.facts {w0 w9 w : World} {x : Nat} {B1 B2 : EnB} {z2 : EnG} {rs : List RcM} {rb1 rb2 k : Nat} {L : List Int} {c p : Nat} {u1 u2 : Value} (h : LastG w0 w9 x B1 B2 z2 rs rb1 rb2 k L c p u1 u2 w) (h1 : w9.cell? ⟨rb1, 3, none⟩ = some (.pointer (some ⟨B1.eb, 0, none⟩))) (h2 : w9.cell? ⟨rb2, 3, none⟩ = some (.pointer (some ⟨B2.eb, 0, none⟩))) (h3 : Chg (fun _ => False) w0 w9) :
    w.cell? ⟨rb1, 3, none⟩ = some (.pointer (some ⟨B1.eb, 0, none⟩)) ∧ w.cell? ⟨rb2, 3, none⟩ = some (.pointer (some ⟨B2.eb, 0, none⟩)) ∧ Chg (fun _ => False) w0 w := by
  match p, h with
  | 0, h =>
    have h : Chg (fun _ => False) w9 w := h
    exact ⟨h.cell h1 (fun x => x), h.cell h2 (fun x => x), h3.trans h (fun _ _ x => x)⟩
  | 1, h =>
    obtain ⟨a, cap, z1, _, _, ht, _, _⟩ := h
    exact ⟨ht.g1.cells.2.2.2, ht.g2.cells.2.2.2, ht.a1.chg⟩
  | p + 2, h =>
    obtain ⟨v1, v2, _, _, hE⟩ := h
    exact ⟨hE.x1, hE.x2, hE.low⟩
theorem EndT.ints {w0 w : World} {eb eb2 rb1 rb2 c : Nat} {v1 v2 : Value} {L : List Int} (h : EndT w0 w eb eb2 rb1 rb2 v1 v2 L c) (hl : L.length ≤ 1000000) (W : World) (hW : Chg (fun _ => False) w W) : Calls Tryz.prog 20 #[v1, v2] W fun e w' => e = .returned (.bool true) ∧ Chg (fun _ => False) w w' := by
  refine (ints_any v1 v2 L L W (grow_ints (h.g1.new hW)) (grow_ints (h.g2.new hW)) hl).mono ?_
  rintro e w' ⟨rfl, q, rfl⟩
  exact ⟨by simp, hW.trans (chg_drewN _ _) (fun _ _ x => x)⟩
set_option maxHeartbeats 8000000 in
set_option maxRecDepth 100000 in
theorem walkF_EnqOne (st : Int) (v : Value) (ms : List (MsgM × Value)) (w : World) (ht : Tab10 w) (h8 : (Lit.int .u8 st).wf = true) (hv : MsgsAt w v ms) (hl : ms.length ≤ maxLen) (hs : ∀ p ∈ ms, Sized w p ∧ CapOk p.2) :
    Calls Tryz.prog 6 #[.int .u8 st, v] w fun e w' => e = .returned (.bool true) ∧ Below w.heap.size w w' := by
  have h8' : 0 ≤ st ∧ st ≤ 255 := by
    have h2 : IntKind.u8.min ≤ st ∧ st ≤ IntKind.u8.max := by simpa [Lit.wf] using h8
    have e1 : IntKind.u8.min = 0 := by decide
    have e2 : IntKind.u8.max = 255 := by decide
    omega
  obtain ⟨a0, a255⟩ := h8'
  obtain ⟨h, rfl⟩ : ∃ h : Nat, st = (h : Int) := ⟨st.toNat, by omega⟩
  unfold maxLen at hl
  have HTB := Lib.hid ht
  have HV := Lib.hid hv
  have HS := Lib.hid hs
  obtain ⟨a, cap, rfl⟩ := hv.form
  obtain ⟨n, hn⟩ : ∃ n, n = ms.length := ⟨_, rfl⟩
  have HN := Lib.hid hn
  rw [← hn] at HV hl ⊢
  clear ht hv hs hn h8
  go_enter Tryz.func6, Tryz.ntmps6
  go_wp2_with fail
  refine (eawake_any w HTB.out).mono ?_
  rintro e w1 ⟨rfl, hc1⟩
  have HC1 := Lib.hid hc1
  clear hc1
  by_cases h60 : 60 < n
  · go_wp2_with fail
    go_ret
    exact ⟨rfl, chg_below HC1.out⟩
  go_wp2_with fail
  refine (great_msgs _ ms w1 (HV.out.keep HC1.out (fun _ _ e => e)) (by rw [← HN.out]; omega) (fun p hp => (HS.out p hp).1.below (chg_below HC1.out))).mono ?_
  rintro e w2 ⟨z, rfl, hf, hb2⟩
  have HC2 := Lib.hid (HC1.out.trans (below_chg hb2) (fun _ _ e => e))
  have HF := Lib.hid hf
  clear hb2 hf
  cases z
  case true =>
    go_wp2_with fail
    go_ret
    exact ⟨rfl, chg_below HC2.out⟩
  have HFA := Lib.hid (HF.out rfl)
  clear HF
  have HM := Lib.hid (emade_any w2 (tab_chg HTB.out HC2.out) h (by omega))
  go_wp2_with fail
  refine HM.out.mono ?_
  rintro e w3 ⟨B1, z1, rfl, hA, m1, m2, m3, m4, m5, m6⟩
  obtain ⟨W3, hW3⟩ : ∃ W, W = w3.alloc (.cells #[.pointer (some ⟨B1.tb, 0, none⟩), .pointer (some ⟨B1.sb, 0, none⟩), .pointer (some ⟨B1.lb, 0, none⟩), .pointer (some ⟨B1.eb, 0, none⟩)] 29) := ⟨_, rfl⟩
  have hc3 : Chg (fun _ => False) w3 W3 := hW3 ▸ Chg.alloc _ (Chg.refl _ _) _
  have hR3 : RigI W3 w3.heap.size B1 z1 := hW3 ▸ RigI.made hA.i
  obtain ⟨rb1, hrb⟩ : ∃ r, r = w3.heap.size := ⟨_, rfl⟩
  rw [← hrb] at hR3
  have hA3 := hA.new hc3
  have HM2 := Lib.hid (emade_any W3 (tab_chg HTB.out (HC2.out.trans hA3.chg (fun _ _ e => e))) h (by omega))
  have HA3 := Lib.hid hA3
  have HR3 := Lib.hid hR3
  have HZ1 := Lib.hid (And.intro m1 (And.intro m3 (And.intro m4 (And.intro m5 m6))))
  have HW3 := Lib.hid hW3
  have HRB := Lib.hid hrb
  obtain ⟨eb, tb, sb, mb, lb⟩ := B1
  dsimp only at *
  clear hA m1 m2 m3 m4 m5 m6 hW3 hc3 hR3 hrb hA3
  go_upto_region 6 with fail
  rw [← HW3.out, ← HRB.out]
  go_wp2_with fail
  refine HM2.out.mono ?_
  rintro e w4 ⟨B2, z2, rfl, hA, m1, m2, m3, m4, m5, m6⟩
  obtain ⟨W4, hW4⟩ : ∃ W, W = w4.alloc (.cells #[.pointer (some ⟨B2.tb, 0, none⟩), .pointer (some ⟨B2.sb, 0, none⟩), .pointer (some ⟨B2.lb, 0, none⟩), .pointer (some ⟨B2.eb, 0, none⟩)] 29) := ⟨_, rfl⟩
  have hc4 : Chg (fun _ => False) w4 W4 := hW4 ▸ Chg.alloc _ (Chg.refl _ _) _
  have hR4 : RigI W4 w4.heap.size B2 z2 := hW4 ▸ RigI.made hA.i
  obtain ⟨rb2, hrb⟩ : ∃ r, r = w4.heap.size := ⟨_, rfl⟩
  rw [← hrb] at hR4
  have hcA := hA.chg
  have hJ4 : OneJ w2 W4 ⟨eb, tb, sb, mb, lb⟩ z1 rb1 B2 z2 rb2 0 h [] := by
    have hR14 := (HR3.out.new hcA).new hc4
    refine ⟨⟨(HA3.out.new hcA).new hc4, (hA.new hc4).base HA3.out.chg (tab_chg HTB.out HC2.out), hR14, hR4, ⟨hR4.out.1, fun hx => ?_⟩, ⟨hR14.out.1, fun hx => ?_⟩, fun q a b => ?_⟩, m1.trans HZ1.out.1.symm, m3.trans HZ1.out.2.1.symm, m4.trans HZ1.out.2.2.1.symm, HZ1.out.2.2.2, ⟨m5, m6⟩⟩
    · have h1 := HA3.out.i.lt _ hx
      have h2 := hcA.size
      omega
    · have h1 := hA.i.lowAll _ hx
      have h2 := HR3.out.out.1
      omega
    · have h1 := HA3.out.i.lt q a
      have h2 := hA.i.lowAll q b
      omega
  have HJ4 : Hid (∃ z1 z2 rs, OneJ w2 W4 ⟨eb, tb, sb, mb, lb⟩ z1 rb1 B2 z2 rb2 0 h rs) := Lib.hid ⟨z1, z2, [], hJ4⟩
  have HW4 := Lib.hid hW4
  have HRB2 := Lib.hid hrb
  obtain ⟨eb2, tb2, sb2, mb2, lb2⟩ := B2
  dsimp only at *
  clear hA m1 m2 m3 m4 m5 m6 hW4 hc4 hR4 hrb hJ4 hcA
  go_upto_region 10 with fail
  rw [← HW4.out, ← HRB2.out]
  go_loopw [49] (fun i wr => ∃ k : Nat, k ≤ n ∧ i = .int .i64 (k : Int) ∧ Hid (∃ z1 z2 rs, OneJ w2 wr ⟨eb, tb, sb, mb, lb⟩ z1 rb1 ⟨eb2, tb2, sb2, mb2, lb2⟩ z2 rb2 k h rs)) (fun i _ => n - (intOf i).toNat)
  case atStart => exact ⟨0, Nat.zero_le _, rfl, HJ4⟩
  case round =>
    obtain ⟨k, hk, rfl, HX⟩ := hrel
    by_cases hlt : k < n
    · as_aux_lemma =>
      obtain ⟨y1, y2, rs0, hI⟩ := HX.out
      have HI := Lib.hid hI
      clear hI
      obtain ⟨p, hp⟩ : ∃ p, ms[k]? = some p := ⟨_, List.getElem?_eq_getElem (by rw [← HN.out]; exact hlt)⟩
      have hpm := List.mem_of_getElem? hp
      obtain ⟨M, vk⟩ := p
      have hcw : Chg (fun _ => False) w wr := HC2.out.trans HI.out.t.a1.chg (fun _ _ e => e)
      obtain ⟨a', cap', e', hx⟩ := HV.out.keep hcw (fun _ _ e => e)
      rcases hx with hx | ⟨b, o, rfl, hbl, hcell⟩
      · rw [hx] at hp; cases hp
      have key := hcell k _ hp
      have hsz : Sized wr (M, vk) := (HS.out _ hpm).1.below (chg_below hcw)
      have hcp : CapOk vk := (HS.out _ hpm).2
      have hfn : Fine M := HFA.out _ hpm
      obtain ⟨hea, hec⟩ : a = some ⟨b, o, none⟩ ∧ cap = cap' := by injection e' with e1 e2 e3; exact ⟨e1, e3⟩
      subst hea
      clear e' hec hcell
      obtain ⟨m1, mq, m3, m4, m5, m6, m7, m8, m9, m10⟩ := M
      obtain ⟨ka, kc, hva⟩ := hsz.strs.form
      dsimp only at hva
      obtain ⟨kl, hkl⟩ : ∃ l, l = m10.length := ⟨_, rfl⟩
      rw [← hkl] at hva
      subst hva
      have f0 : wr.cell? ⟨b, o + k * 10, none⟩ = some (.int .i64 m1) := by first | (simp [MsgM.cells]; done) | simpa [MsgM.cells] using key 0 (by decide)
      have f1 : wr.cell? ⟨b, o + k * 10 + 1, none⟩ = some (.int .i64 mq) := by first | (simp [MsgM.cells]; done) | simpa [MsgM.cells] using key 1 (by decide)
      have f2 : wr.cell? ⟨b, o + k * 10 + 1 + 1, none⟩ = some (.int .i64 m3) := by first | (simp [MsgM.cells]; done) | simpa [MsgM.cells] using key 2 (by decide)
      have f3 : wr.cell? ⟨b, o + k * 10 + 1 + 1 + 1, none⟩ = some (.int .i64 m4) := by first | (simp [MsgM.cells]; done) | simpa [MsgM.cells] using key 3 (by decide)
      have f4 : wr.cell? ⟨b, o + k * 10 + 1 + 1 + 1 + 1, none⟩ = some (.int .i64 m5) := by first | (simp [MsgM.cells]; done) | simpa [MsgM.cells] using key 4 (by decide)
      have f5 : wr.cell? ⟨b, o + k * 10 + 1 + 1 + 1 + 1 + 1, none⟩ = some (.int .i64 m6) := by first | (simp [MsgM.cells]; done) | simpa [MsgM.cells] using key 5 (by decide)
      have f6 : wr.cell? ⟨b, o + k * 10 + 1 + 1 + 1 + 1 + 1 + 1, none⟩ = some (.string m7) := by first | (simp [MsgM.cells]; done) | simpa [MsgM.cells] using key 6 (by decide)
      have f7 : wr.cell? ⟨b, o + k * 10 + 1 + 1 + 1 + 1 + 1 + 1 + 1, none⟩ = some (.string m8) := by first | (simp [MsgM.cells]; done) | simpa [MsgM.cells] using key 7 (by decide)
      have f8 : wr.cell? ⟨b, o + k * 10 + 1 + 1 + 1 + 1 + 1 + 1 + 1 + 1, none⟩ = some (.string m9) := by first | (simp [MsgM.cells]; done) | simpa [MsgM.cells] using key 8 (by decide)
      have f9 : wr.cell? ⟨b, o + k * 10 + 1 + 1 + 1 + 1 + 1 + 1 + 1 + 1 + 1, none⟩ = some (.slice ka kl kc) := by first | (simp [MsgM.cells]; done) | simpa [MsgM.cells] using key 9 (by decide)
      obtain ⟨W1, hW1⟩ : ∃ W, W = wr.alloc (.cells #[.int .i64 m1, .int .i64 mq, .int .i64 m3, .int .i64 m4, .int .i64 m5, .int .i64 m6, .string m7, .string m8, .string m9, .slice ka kl kc] 36) := ⟨_, rfl⟩
      have hb1 : Below wr.heap.size wr W1 := hW1 ▸ (Below.refl _ _).alloc (Nat.le_refl _) _
      have hbx : Box W1 wr.heap.size #[.int .i64 m1, .int .i64 mq, .int .i64 m3, .int .i64 m4, .int .i64 m5, .int .i64 m6, .string m7, .string m8, .string m9, .slice ka kl kc] := hW1 ▸ Box.new wr _
      have hI1 := HI.out.new (below_chg hb1)
      have hap := hI1.add1 (by omega) ⟨m1, mq, m3, m4, m5, m6, m7, m8, m9, m10⟩ (.slice ka kl kc) (hsz.strs.below hb1 (Nat.le_refl _)) hcp hfn.sound
      have k0 := hbx.cell
      obtain ⟨x0, x1, x2, x3⟩ := hI1.t.g1.cells
      dsimp only at x0 x1 x2 x3
      have hbo1 : OutE W1 ⟨eb, tb, sb, mb, lb⟩ y1 wr.heap.size := ⟨hbx.lt, fun hx => Nat.lt_irrefl _ (HI.out.t.a1.i.lt _ hx)⟩
      have hss := (hsz.strs.below hb1 (Nat.le_refl _) : Strs W1 0 (.slice ka kl kc) m10)
      have hsl : ∀ q, q < wr.heap.size → q < W1.heap.size := fun q hq => Nat.lt_of_lt_of_le hq hb1.size
      obtain ⟨bx, hbx'⟩ : ∃ q, q = wr.heap.size := ⟨_, rfl⟩
      rw [← hbx'] at k0 hbx hbo1
      have HBB := Lib.hid hbx'
      have HBX := Lib.hid hbx
      have HBO := Lib.hid hbo1
      have HAP := Lib.hid hap
      have HW1 := Lib.hid hW1
      have HG2 : Hid (∀ w', Chg (fun q => y1.own ⟨eb, tb, sb, mb, lb⟩ q) W1 w' → Strs w' 0 (.slice ka kl kc) m10 ∧ Chg (fun _ => False) w2 w') := Lib.hid (fun w' hc => by
        have hcc : Chg (fun _ => False) w2 w' := hI1.t.a1.chg.trans hc (fun q hq hx => by have := hI1.t.a1.i.lowAll q hx; omega)
        exact ⟨(HS.out _ hpm).1.strs.below (chg_below (HC2.out.trans hcc (fun _ _ e => e))) (Nat.le_refl _), hcc⟩)
      have HCP := Lib.hid (And.intro hcp hfn.sound)
      unfold rigC MsgM.val MsgM.cells at HAP
      dsimp only at HAP
      clear hp hpm hcw hbl key hsz hcp hfn hW1 hb1 hbx hI1 hap hkl hbx' hbo1 hss hsl
      go_upto_region 12 with fail
      rw [← HW1.out, ← HBB.out]
      clear f0 f1 f2 f3 f4 f5 f6 f7 f8 f9
      go_wp2_with fail
      refine HAP.out.mono ?_
      rintro e w5 ⟨xx, yy, rfl, z5, hJ5, hq5⟩
      have hbx5 : Box w5 bx _ := (HBO.out.to hq5).2.trans HBX.out
      have k5 := hbx5.cell
      have hT5 := hJ5.ex.choose_spec.1
      obtain ⟨v0, v1, v2, v3⟩ := hT5.g2.cells
      dsimp only at v0 v1 v2 v3
      have hap := hJ5.add2 (by omega) (.slice ka kl kc) (HG2.out w5 hq5.chg).1 HCP.out.1 HCP.out.2
      have HAP2 := Lib.hid hap
      unfold rigC MsgM.val MsgM.cells at HAP2
      dsimp only at HAP2
      clear hJ5 hq5 hbx5 hT5 hap k0 x0 x1 x2 x3
      go_wp2_with fail
      refine HAP2.out.mono ?_
      rintro e w6 ⟨xx, yy, rfl, z6, rs6, hJ6⟩
      have HX6 : Hid (∃ z1 z2 rs, OneJ w2 w6 ⟨eb, tb, sb, mb, lb⟩ z1 rb1 ⟨eb2, tb2, sb2, mb2, lb2⟩ z2 rb2 (k + 1) h rs) := Lib.hid ⟨z5, z6, rs6, hJ6⟩
      clear hJ6 k5 v0 v1 v2 v3
      go_wp2_with fail
      exact ⟨⟨k + 1, by omega, by go_num, HX6⟩, by simp [intOf]; omega⟩
    · as_aux_lemma =>
      obtain rfl : k = n := by omega
      obtain ⟨y1, y2, rs0, hI⟩ := HX.out
      have HSY := Lib.hid (hI.t.a1.sync (by omega))
      have x0 : wr.cell? ⟨rb1, 0, none⟩ = some (.pointer (some ⟨tb, 0, none⟩)) := hI.t.g1.cells.1
      have HI := Lib.hid hI
      have hk60 : k ≤ 60 := by omega
      clear hI hlt hk HX
      go_wp2_with fail
      refine HSY.out.mono ?_
      rintro e w4 ⟨rfl, x4, hA4, hq4, b1, b2⟩
      have hT4 := HI.out.t.first hA4 hq4
      have x1 : w4.cell? ⟨rb2, 0, none⟩ = some (.pointer (some ⟨tb2, 0, none⟩)) := hT4.g2.cells.1
      have HSY2 := Lib.hid (hT4.a2.sync (by omega))
      have HT4 := Lib.hid hT4
      have HB4 : Hid (x4.l = y1.x.l ∧ x4.m.synced = (((bytesI x4.l).length : Nat) : Int)) := Lib.hid ⟨b1, by rw [b1]; exact b2⟩
      clear hA4 hq4 b1 b2 hT4 x0
      go_wp2_with fail
      refine HSY2.out.mono ?_
      rintro e w5 ⟨rfl, x5, hA5, hq5, b1, b2⟩
      have hT5 := (HT4.out.swap.first hA5 hq5).swap
      have x3 : w5.cell? ⟨rb1, 3, none⟩ = some (.pointer (some ⟨eb, 0, none⟩)) := hT5.g1.cells.2.2.2
      have HAL := Lib.hid (eall_any hT5.a1 (by omega) (by decide))
      have HT5 := Lib.hid hT5
      have HB5 : Hid (x5.m.synced = (((bytesI x5.l).length : Nat) : Int)) := Lib.hid (by rw [b1]; exact b2)
      clear hA5 hq5 b1 b2 hT5 x1
      go_wp2_with fail
      refine HAL.out.mono ?_
      rintro e w6 ⟨d, r, z6, c1, c2, rfl, c3, hA6, hq6, c4, c5, c6⟩
      have hr : r = [] := AllE.nil HT5.out.a1 (synced_all HT5.out.a1 HB4.out.2) c1 c2
      subst hr
      rw [List.append_nil] at c1
      subst c1
      have hT6 := HT5.out.first hA6 hq6
      rw [List.nil_append] at hT6
      have hJ6 : StpJ w2 w6 ⟨eb, tb, sb, mb, lb⟩ z6 rb1 ⟨eb2, tb2, sb2, mb2, lb2⟩ { y2 with x := x5 } rb2 k rs0 [] rs0 y1.M y1.hd := ⟨hT6, by simp, ⟨by rw [c5]; show y1.ws ++ _ = _; rw [HI.out.w1.1]; rfl, by rw [c6]; show y1.L ++ _ = _; rw [HI.out.w1.2]; rfl⟩, ⟨HI.out.w2.1, HI.out.w2.2⟩, HI.out.M, HI.out.hd, synced_all HT5.out.a2 HB5.out⟩
      obtain ⟨nn, hnn⟩ : ∃ x, x = (schd rs0).length := ⟨_, rfl⟩
      rw [← hnn]
      have hnk : nn ≤ 60 := by
        have h1 := hT6.a1.dl
        rw [hnn]
        omega
      have HNN := Lib.hid hnn
      obtain ⟨M, hM⟩ : ∃ x, x = y1.M := ⟨_, rfl⟩
      obtain ⟨hd, hhd⟩ : ∃ x, x = y1.hd := ⟨_, rfl⟩
      rw [← hM, ← hhd] at hJ6
      have HJ6 := Lib.hid hJ6
      clear hA6 hq6 c2 c3 c4 c5 c6 hT6 hJ6 x3 hnn hM hhd
      go_wp2_with fail
      go_loopw [13] (fun kk wr => ∃ (z2 : EnG) (d r : List RcM) (m : Nat), kk = .int .i64 (m : Int) ∧ Hid (m = (schd d).length) ∧ Hid (StpJ w2 wr ⟨eb, tb, sb, mb, lb⟩ z6 rb1 ⟨eb2, tb2, sb2, mb2, lb2⟩ z2 rb2 k rs0 d r M hd)) (fun kk _ => nn - (intOf kk).toNat)
      case atStart => exact ⟨_, [], rs0, 0, rfl, Lib.hid rfl, HJ6⟩
      case round =>
        obtain ⟨z2, d, r, m, rfl, HMM, HJ⟩ := hrel
        have HST := Lib.hid (HJ.out.step (by omega))
        have x3 : wr.cell? ⟨rb2, 3, none⟩ = some (.pointer (some ⟨eb2, 0, none⟩)) := HJ.out.t.g2.cells.2.2.2
        have hmn : m ≤ nn := by
          rw [HMM.out, HNN.out, HJ.out.eq, schd_app, List.length_append]
          omega
        go_wp2_with fail
        refine HST.out.mono ?_
        rintro e w7 (⟨rfl, hsd, z7, hJ7⟩ | ⟨rfl, z7, d7, r7, h1, h2, hJ7⟩)
        · have hmn2 : m = nn := by rw [HMM.out, HNN.out, hsd]
          subst hmn2
          have HJ7 := Lib.hid hJ7
          obtain ⟨u0, u1, u2, u3⟩ := hJ7.t.g1.cells
          obtain ⟨v0, v1, v2, v3⟩ := hJ7.t.g2.cells
          dsimp only at u2 v2
          have HWT := Lib.hid hJ7.t.a1.waits
          clear hJ7 hsd x3 u0 u1 u3 v0 v1 v3
          go_wp2_with fail
          refine HWT.out.mono ?_
          rintro e w8 ⟨rfl, hc8⟩
          have HJ8 := Lib.hid (HJ7.out.new hc8)
          have hwt := HJ8.out.t.a2.waits
          rw [HJ8.out.w2.1, ← HJ8.out.w1.1] at hwt
          have HWT2 := Lib.hid hwt
          obtain ⟨v0, v1, v2, v3⟩ := HJ8.out.t.g2.cells
          dsimp only at v2
          clear hc8 hwt v0 v1 v3 u2
          go_wp2_with fail
          refine HWT2.out.mono ?_
          rintro e w9 ⟨rfl, hc9⟩
          have HJ9 := Lib.hid (HJ8.out.new hc9)
          obtain ⟨u0, u1, u2, u3⟩ := HJ9.out.t.g1.cells
          obtain ⟨v0, v1, v2, v3⟩ := HJ9.out.t.g2.cells
          dsimp only at u3 v3
          obtain ⟨wn, hwn⟩ : ∃ x, x = z6.ws.length := ⟨_, rfl⟩
          rw [← hwn]
          clear hc9 u0 u1 u2 v0 v1 v2 hwn
          obtain ⟨L, hL⟩ : ∃ x, x = z6.L := ⟨_, rfl⟩
          obtain ⟨cc, hcc⟩ : ∃ x, x = z6.c := ⟨_, rfl⟩
          have eL : z7.L = L := by rw [hL, HJ9.out.w2.2, HJ9.out.w1.2]
          have ec : z7.c = cc := by rw [hcc, HJ9.out.t.a1.c, HJ9.out.t.a2.c]
          have hLl : L.length ≤ 1000 := by
            have h1 := HJ9.out.t.a1.ws
            have h2 := HJ9.out.t.a1.dl
            rw [← hL] at h1
            omega
          have HLL := Lib.hid hLl
          have HL1 : Hid (∀ W, Chg (fun _ => False) w9 W → Calls Tryz.prog 21 #[.pointer (some ⟨eb, 0, none⟩)] W (LateF w2 W ⟨eb, tb, sb, mb, lb⟩ z6 rs0 [] rb1 ⟨eb2, tb2, sb2, mb2, lb2⟩ z7 rs0 [] rb2 k L cc)) := Lib.hid (fun W hW => late_first (HJ9.out.t.new hW) hL.symm hcc.symm)
          have HL2 : Hid (∀ W, Chg (fun _ => False) w9 W → Calls Tryz.prog 21 #[.pointer (some ⟨eb2, 0, none⟩)] W (LateF w2 W ⟨eb2, tb2, sb2, mb2, lb2⟩ z7 rs0 [] rb2 ⟨eb, tb, sb, mb, lb⟩ z6 rs0 [] rb1 k L cc)) := Lib.hid (fun W hW => late_first (HJ9.out.t.new hW).swap eL ec)
          have HX7 := Lib.hid (And.intro (And.intro hL hcc) (And.intro eL ec))
          have HW : Hid (∀ W, Chg (fun _ => False) w2 W → Below w.heap.size w W) := Lib.hid (fun W hW => chg_below (HC2.out.trans hW (fun _ _ e => e)))
          have LG : Hid (∀ p v1 v2 W, LastG w2 w9 eb2 ⟨eb, tb, sb, mb, lb⟩ ⟨eb2, tb2, sb2, mb2, lb2⟩ z7 rs0 rb1 rb2 k L cc p v1 v2 W → W.cell? ⟨rb1, 3, none⟩ = some (.pointer (some ⟨eb, 0, none⟩)) ∧ W.cell? ⟨rb2, 3, none⟩ = some (.pointer (some ⟨eb2, 0, none⟩)) ∧ Chg (fun _ => False) w2 W) := Lib.hid (fun p v1 v2 W hG => hG.facts u3 v3 HJ9.out.t.a1.chg)
          clear hL hcc eL ec hLl
          go_upto_region 26 with fail
          clear u3 v3
          refine region_pt (n := 138) 14 [23, 26, 27, 32, 35] rfl rfl (by kernel_rfl) (by kernel_rfl) (by kernel_rfl) (fun i v => match i with | 0 => v = .int .i64 0 | 1 => v = .bool true | 2 => v = .bool true | 3 => v = .int .i64 (m : Int) | 4 => v = .int .i64 (m : Int) | 5 => v = .bool true | 6 => v = .bool true | 7 => v = .bool true | 8 => v = .int .i64 (wn : Int) | 9 => v = .int .i64 (wn : Int) | 10 => v = .bool true | 11 => v = .bool true | 12 => v = .bool true | 13 => v = .int .i64 0 | 14 => v = .bool true | 15 => v = .bool true | 16 => v = .bool true | 17 => v = .int .i64 0 | 18 => v = .bool true | 19 => v = .bool true | 20 => v = .bool true | 21 => v = .pointer (some ⟨rb1, 3, none⟩) | 22 => v = .pointer (some ⟨eb, 0, none⟩) | 24 => v = .pointer (some ⟨rb2, 3, none⟩) | 25 => v = .pointer (some ⟨eb2, 0, none⟩) | 27 => v = .bool true | 28 => v = .bool true | 29 => v = .bool true | 30 => v = .pointer (some ⟨rb1, 3, none⟩) | 31 => v = .pointer (some ⟨eb, 0, none⟩) | 32 => v = .int .i64 (cc : Int) | 33 => v = .pointer (some ⟨rb2, 3, none⟩) | 34 => v = .pointer (some ⟨eb2, 0, none⟩) | 35 => v = .int .i64 (cc : Int) | 36 => v = .bool true | 37 => v = .bool true | 38 => v = .bool true | _ => True)
            (fun p f w' => LastG w2 w9 eb2 ⟨eb, tb, sb, mb, lb⟩ ⟨eb2, tb2, sb2, mb2, lb2⟩ z7 rs0 rb1 rb2 k L cc p (f 123) (f 126) w') ?_ ?_ ?_
          · exact (Chg.refl _ _).drew
          · simp only [AllAt]
            refine ⟨?_, ?_, ?_, ?_, ?_, ?_, ?_, ?_, ?_, ?_, ?_, ?_, ?_, ?_, ?_, ?_, ?_, ?_, ?_, ?_, ?_, ?_, ?_, ?_, ?_, ?_, ?_, ?_, ?_, ?_, ?_, ?_, ?_, ?_, ?_, ?_, ?_, ?_, ?_, trivial⟩
            · refine StepPT.reg (fun f hp => wanted_none rfl) (by decide) (fun d hd => by cases hd; decide) ?_
              intro f w' p hG hup hdn hfr hp K hK
              have g12 : f 12 = .int .i64 0 := hfr 12 (by kernel_rfl)
              clear hfr hp hup hdn
              go_simp
              exact hK _ _ rfl hG
            · refine StepPT.reg (fun f hp => wanted_none rfl) (by decide) (fun d hd => by cases hd; decide) ?_
              intro f w' p hG hup hdn hfr hp K hK
              have g100 : f 100 = .int .i64 0 := hp 0 _ 100 rfl rfl (by kernel_rfl)
              clear hfr hp hup hdn
              go_simp
              exact hK _ _ rfl hG
            · refine StepPT.reg (fun f hp => wanted_none rfl) (by decide) (fun d hd => by cases hd; decide) ?_
              intro f w' p hG hup hdn hfr hp K hK
              have g101 : f 101 = .bool true := hp 1 _ 101 rfl rfl (by kernel_rfl)
              clear hfr hp hup hdn
              go_simp
              exact hK _ _ rfl hG
            · refine StepPT.reg (fun f hp => wanted_on 2 102 true rfl rfl rfl (by decide) (hp 2 _ 102 rfl rfl (by kernel_rfl))) (by decide) (fun d hd => by cases hd; decide) ?_
              intro f w' p hG hup hdn hfr hp K hK
              have g11 : f 11 = .int .i64 (m : Int) := hfr 11 (by kernel_rfl)
              clear hfr hp hup hdn
              go_simp
              exact hK _ _ rfl hG
            · refine StepPT.reg (fun f hp => wanted_on 2 102 true rfl rfl rfl (by decide) (hp 2 _ 102 rfl rfl (by kernel_rfl))) (by decide) (fun d hd => by cases hd; decide) ?_
              intro f w' p hG hup hdn hfr hp K hK
              have g13 : f 13 = .int .i64 (m : Int) := hfr 13 (by kernel_rfl)
              clear hfr hp hup hdn
              go_simp
              exact hK _ _ rfl hG
            · refine StepPT.reg (fun f hp => wanted_on 2 102 true rfl rfl rfl (by decide) (hp 2 _ 102 rfl rfl (by kernel_rfl))) (by decide) (fun d hd => by cases hd; decide) ?_
              intro f w' p hG hup hdn hfr hp K hK
              have g103 : f 103 = .int .i64 (m : Int) := hp 3 _ 103 rfl rfl (by kernel_rfl)
              have g104 : f 104 = .int .i64 (m : Int) := hp 4 _ 104 rfl rfl (by kernel_rfl)
              clear hfr hp hup hdn
              go_simp
              exact hK _ _ (by simp) hG
            · refine StepPT.reg (fun f hp => wanted_none rfl) (by decide) (fun d hd => by cases hd; decide) ?_
              intro f w' p hG hup hdn hfr hp K hK
              have g102 : f 102 = .bool true := hp 2 _ 102 rfl rfl (by kernel_rfl)
              have g105 : f 105 = .bool true := hp 5 _ 105 rfl rfl (by kernel_rfl)
              clear hfr hp hup hdn
              go_simp
              exact hK _ _ rfl hG
            · refine StepPT.reg (fun f hp => wanted_none rfl) (by decide) (fun d hd => by cases hd; decide) ?_
              intro f w' p hG hup hdn hfr hp K hK
              have g106 : f 106 = .bool true := hp 6 _ 106 rfl rfl (by kernel_rfl)
              clear hfr hp hup hdn
              go_simp
              exact hK _ _ rfl hG
            · refine StepPT.reg (fun f hp => wanted_on 7 107 true rfl rfl rfl (by decide) (hp 7 _ 107 rfl rfl (by kernel_rfl))) (by decide) (fun d hd => by cases hd; decide) ?_
              intro f w' p hG hup hdn hfr hp K hK
              have g16 : f 16 = .int .i64 (wn : Int) := hfr 16 (by kernel_rfl)
              clear hfr hp hup hdn
              go_simp
              exact hK _ _ rfl hG
            · refine StepPT.reg (fun f hp => wanted_on 7 107 true rfl rfl rfl (by decide) (hp 7 _ 107 rfl rfl (by kernel_rfl))) (by decide) (fun d hd => by cases hd; decide) ?_
              intro f w' p hG hup hdn hfr hp K hK
              have g18 : f 18 = .int .i64 (wn : Int) := hfr 18 (by kernel_rfl)
              clear hfr hp hup hdn
              go_simp
              exact hK _ _ rfl hG
            · refine StepPT.reg (fun f hp => wanted_on 7 107 true rfl rfl rfl (by decide) (hp 7 _ 107 rfl rfl (by kernel_rfl))) (by decide) (fun d hd => by cases hd; decide) ?_
              intro f w' p hG hup hdn hfr hp K hK
              have g108 : f 108 = .int .i64 (wn : Int) := hp 8 _ 108 rfl rfl (by kernel_rfl)
              have g109 : f 109 = .int .i64 (wn : Int) := hp 9 _ 109 rfl rfl (by kernel_rfl)
              clear hfr hp hup hdn
              go_simp
              exact hK _ _ (by simp) hG
            · refine StepPT.reg (fun f hp => wanted_none rfl) (by decide) (fun d hd => by cases hd; decide) ?_
              intro f w' p hG hup hdn hfr hp K hK
              have g107 : f 107 = .bool true := hp 7 _ 107 rfl rfl (by kernel_rfl)
              have g110 : f 110 = .bool true := hp 10 _ 110 rfl rfl (by kernel_rfl)
              clear hfr hp hup hdn
              go_simp
              exact hK _ _ rfl hG
            · refine StepPT.reg (fun f hp => wanted_none rfl) (by decide) (fun d hd => by cases hd; decide) ?_
              intro f w' p hG hup hdn hfr hp K hK
              have g111 : f 111 = .bool true := hp 11 _ 111 rfl rfl (by kernel_rfl)
              clear hfr hp hup hdn
              go_simp
              exact hK _ _ rfl hG
            · refine StepPT.reg (fun f hp => wanted_on 12 112 true rfl rfl rfl (by decide) (hp 12 _ 112 rfl rfl (by kernel_rfl))) (by decide) (fun d hd => by cases hd; decide) ?_
              intro f w' p hG hup hdn hfr hp K hK
              have g17 : f 17 = .int .i64 0 := hfr 17 (by kernel_rfl)
              clear hfr hp hup hdn
              go_simp
              exact hK _ _ rfl hG
            · refine StepPT.reg (fun f hp => wanted_on 12 112 true rfl rfl rfl (by decide) (hp 12 _ 112 rfl rfl (by kernel_rfl))) (by decide) (fun d hd => by cases hd; decide) ?_
              intro f w' p hG hup hdn hfr hp K hK
              have g113 : f 113 = .int .i64 0 := hp 13 _ 113 rfl rfl (by kernel_rfl)
              clear hfr hp hup hdn
              go_simp
              exact hK _ _ rfl hG
            · refine StepPT.reg (fun f hp => wanted_none rfl) (by decide) (fun d hd => by cases hd; decide) ?_
              intro f w' p hG hup hdn hfr hp K hK
              have g112 : f 112 = .bool true := hp 12 _ 112 rfl rfl (by kernel_rfl)
              have g114 : f 114 = .bool true := hp 14 _ 114 rfl rfl (by kernel_rfl)
              clear hfr hp hup hdn
              go_simp
              exact hK _ _ rfl hG
            · refine StepPT.reg (fun f hp => wanted_none rfl) (by decide) (fun d hd => by cases hd; decide) ?_
              intro f w' p hG hup hdn hfr hp K hK
              have g115 : f 115 = .bool true := hp 15 _ 115 rfl rfl (by kernel_rfl)
              clear hfr hp hup hdn
              go_simp
              exact hK _ _ rfl hG
            · refine StepPT.reg (fun f hp => wanted_on 16 116 true rfl rfl rfl (by decide) (hp 16 _ 116 rfl rfl (by kernel_rfl))) (by decide) (fun d hd => by cases hd; decide) ?_
              intro f w' p hG hup hdn hfr hp K hK
              have g19 : f 19 = .int .i64 0 := hfr 19 (by kernel_rfl)
              clear hfr hp hup hdn
              go_simp
              exact hK _ _ rfl hG
            · refine StepPT.reg (fun f hp => wanted_on 16 116 true rfl rfl rfl (by decide) (hp 16 _ 116 rfl rfl (by kernel_rfl))) (by decide) (fun d hd => by cases hd; decide) ?_
              intro f w' p hG hup hdn hfr hp K hK
              have g117 : f 117 = .int .i64 0 := hp 17 _ 117 rfl rfl (by kernel_rfl)
              clear hfr hp hup hdn
              go_simp
              exact hK _ _ rfl hG
            · refine StepPT.reg (fun f hp => wanted_none rfl) (by decide) (fun d hd => by cases hd; decide) ?_
              intro f w' p hG hup hdn hfr hp K hK
              have g116 : f 116 = .bool true := hp 16 _ 116 rfl rfl (by kernel_rfl)
              have g118 : f 118 = .bool true := hp 18 _ 118 rfl rfl (by kernel_rfl)
              clear hfr hp hup hdn
              go_simp
              exact hK _ _ rfl hG
            · refine StepPT.reg (fun f hp => wanted_none rfl) (by decide) (fun d hd => by cases hd; decide) ?_
              intro f w' p hG hup hdn hfr hp K hK
              have g119 : f 119 = .bool true := hp 19 _ 119 rfl rfl (by kernel_rfl)
              clear hfr hp hup hdn
              go_simp
              exact hK _ _ rfl hG
            · refine StepPT.reg (fun f hp => wanted_on 20 120 true rfl rfl rfl (by decide) (hp 20 _ 120 rfl rfl (by kernel_rfl))) (by decide) (fun d hd => by cases hd; decide) ?_
              intro f w' p hG hup hdn hfr hp K hK
              have g5 : f 5 = .pointer (some ⟨rb1, 0, none⟩) := hfr 5 (by kernel_rfl)
              clear hfr hp hup hdn
              go_simp
              exact hK _ _ rfl hG
            · refine StepPT.reg (fun f hp => wanted_on 20 120 true rfl rfl rfl (by decide) (hp 20 _ 120 rfl rfl (by kernel_rfl))) (by decide) (fun d hd => by cases hd; decide) ?_
              intro f w' p hG hup hdn hfr hp K hK
              have g121 : f 121 = .pointer (some ⟨rb1, 3, none⟩) := hp 21 _ 121 rfl rfl (by kernel_rfl)
              have u3 := (LG.out _ _ _ _ hG).1
              clear hfr hp hup hdn
              go_simp
              exact hK _ _ rfl hG
            · refine StepPT.wr 0 (fun f hp => wanted_on 20 120 true rfl rfl rfl (by decide) (hp 20 _ 120 rfl rfl (by kernel_rfl))) (by decide) rfl (fun d hd => by cases hd; decide) (fun j hj => by omega) ?_
              intro f w' hG hfr hp K hK
              have g122 : f 122 = .pointer (some ⟨eb, 0, none⟩) := hp 22 _ 122 rfl rfl (by kernel_rfl)
              clear hfr hp
              go_simp
              refine (HL1.out _ hG).mono ?_
              rintro e wa hX
              obtain ⟨a1, cap1, zz1, rfl, e1, ht1, hg1, hn1, hc1⟩ := hX
              exact hK _ _ (fun _ => trivial) ⟨a1, cap1, zz1, rfl, e1, ht1, hg1, hn1⟩
            · refine StepPT.reg (fun f hp => wanted_on 20 120 true rfl rfl rfl (by decide) (hp 20 _ 120 rfl rfl (by kernel_rfl))) (by decide) (fun d hd => by cases hd; decide) ?_
              intro f w' p hG hup hdn hfr hp K hK
              have g7 : f 7 = .pointer (some ⟨rb2, 0, none⟩) := hfr 7 (by kernel_rfl)
              clear hfr hp hup hdn
              go_simp
              exact hK _ _ rfl hG
            · refine StepPT.reg (fun f hp => wanted_on 20 120 true rfl rfl rfl (by decide) (hp 20 _ 120 rfl rfl (by kernel_rfl))) (by decide) (fun d hd => by cases hd; decide) ?_
              intro f w' p hG hup hdn hfr hp K hK
              have g124 : f 124 = .pointer (some ⟨rb2, 3, none⟩) := hp 24 _ 124 rfl rfl (by kernel_rfl)
              have v3 := (LG.out _ _ _ _ hG).2.1
              clear hfr hp hup hdn
              go_simp
              exact hK _ _ rfl hG
            · refine StepPT.wr 1 (fun f hp => wanted_on 20 120 true rfl rfl rfl (by decide) (hp 20 _ 120 rfl rfl (by kernel_rfl))) (by decide) rfl (fun d hd => by cases hd; decide) (fun j hj => by (obtain rfl : j = 0 := (by omega)); kernel_rfl) ?_
              intro f w' hG hfr hp K hK
              have g125 : f 125 = .pointer (some ⟨eb2, 0, none⟩) := hp 25 _ 125 rfl rfl (by kernel_rfl)
              clear hfr hp
              obtain ⟨a1, cap1, zz1, g123, e1, ht1, hg1, hn1⟩ := hG
              go_simp
              refine (late_first ht1.swap HX7.out.2.1 HX7.out.2.2).mono ?_
              rintro e wa hX
              obtain ⟨a2, cap2, zz2, rfl, e2, ht2, hg2, hn2, hc2⟩ := hX
              exact hK _ _ (fun _ => trivial) ⟨_, _, g123, rfl, EndT.of ht2.swap e1 e2 hg1 hn1 hc2 hg2⟩
            · refine StepPT.wr 2 (fun f hp => wanted_on 20 120 true rfl rfl rfl (by decide) (hp 20 _ 120 rfl rfl (by kernel_rfl))) (by decide) rfl (fun d hd => by cases hd; decide) (fun j hj => by rcases (by omega : j = 0 ∨ j = 1) with rfl | rfl <;> kernel_rfl) ?_
              intro f w' hG hfr hp K hK
              clear hfr hp
              obtain ⟨v1, v2, g123, g126, hE⟩ := hG
              go_simp
              refine (hE.ints (by have := HLL.out; omega) _ (Chg.refl _ _)).mono ?_
              rintro e wa hX
              obtain ⟨rfl, hc⟩ := hX
              exact hK _ _ (fun _ => rfl) ⟨v1, v2, g123, g126, hE.new hc⟩
            · refine StepPT.reg (fun f hp => wanted_none rfl) (by decide) (fun d hd => by cases hd; decide) ?_
              intro f w' p hG hup hdn hfr hp K hK
              have g120 : f 120 = .bool true := hp 20 _ 120 rfl rfl (by kernel_rfl)
              have g127 : f 127 = .bool true := hp 27 _ 127 rfl rfl (by kernel_rfl)
              clear hfr hp hup hdn
              go_simp
              exact hK _ _ rfl hG
            · refine StepPT.reg (fun f hp => wanted_none rfl) (by decide) (fun d hd => by cases hd; decide) ?_
              intro f w' p hG hup hdn hfr hp K hK
              have g128 : f 128 = .bool true := hp 28 _ 128 rfl rfl (by kernel_rfl)
              clear hfr hp hup hdn
              go_simp
              exact hK _ _ rfl hG
            · refine StepPT.reg (fun f hp => wanted_on 29 129 true rfl rfl rfl (by decide) (hp 29 _ 129 rfl rfl (by kernel_rfl))) (by decide) (fun d hd => by cases hd; decide) ?_
              intro f w' p hG hup hdn hfr hp K hK
              have g5 : f 5 = .pointer (some ⟨rb1, 0, none⟩) := hfr 5 (by kernel_rfl)
              clear hfr hp hup hdn
              go_simp
              exact hK _ _ rfl hG
            · refine StepPT.reg (fun f hp => wanted_on 29 129 true rfl rfl rfl (by decide) (hp 29 _ 129 rfl rfl (by kernel_rfl))) (by decide) (fun d hd => by cases hd; decide) ?_
              intro f w' p hG hup hdn hfr hp K hK
              have g130 : f 130 = .pointer (some ⟨rb1, 3, none⟩) := hp 30 _ 130 rfl rfl (by kernel_rfl)
              have u3 := (LG.out _ _ _ _ hG).1
              clear hfr hp hup hdn
              go_simp
              exact hK _ _ rfl hG
            · refine StepPT.wr 3 (fun f hp => wanted_on 29 129 true rfl rfl rfl (by decide) (hp 29 _ 129 rfl rfl (by kernel_rfl))) (by decide) rfl (fun d hd => by cases hd; decide) (fun j hj => by rcases (by omega : j = 0 ∨ j = 1 ∨ j = 2) with rfl | rfl | rfl <;> kernel_rfl) ?_
              intro f w' hG hfr hp K hK
              have g131 : f 131 = .pointer (some ⟨eb, 0, none⟩) := hp 31 _ 131 rfl rfl (by kernel_rfl)
              clear hfr hp
              obtain ⟨v1, v2, g123, g126, hE⟩ := hG
              go_simp
              refine (hE.c1 _ (Chg.refl _ _)).mono ?_
              rintro e wa hX
              obtain ⟨rfl, rfl⟩ := hX
              exact hK _ _ (fun _ => rfl) ⟨v1, v2, g123, g126, hE⟩
            · refine StepPT.reg (fun f hp => wanted_on 29 129 true rfl rfl rfl (by decide) (hp 29 _ 129 rfl rfl (by kernel_rfl))) (by decide) (fun d hd => by cases hd; decide) ?_
              intro f w' p hG hup hdn hfr hp K hK
              have g7 : f 7 = .pointer (some ⟨rb2, 0, none⟩) := hfr 7 (by kernel_rfl)
              clear hfr hp hup hdn
              go_simp
              exact hK _ _ rfl hG
            · refine StepPT.reg (fun f hp => wanted_on 29 129 true rfl rfl rfl (by decide) (hp 29 _ 129 rfl rfl (by kernel_rfl))) (by decide) (fun d hd => by cases hd; decide) ?_
              intro f w' p hG hup hdn hfr hp K hK
              have g133 : f 133 = .pointer (some ⟨rb2, 3, none⟩) := hp 33 _ 133 rfl rfl (by kernel_rfl)
              have v3 := (LG.out _ _ _ _ hG).2.1
              clear hfr hp hup hdn
              go_simp
              exact hK _ _ rfl hG
            · refine StepPT.wr 4 (fun f hp => wanted_on 29 129 true rfl rfl rfl (by decide) (hp 29 _ 129 rfl rfl (by kernel_rfl))) (by decide) rfl (fun d hd => by cases hd; decide) (fun j hj => by rcases (by omega : j = 0 ∨ j = 1 ∨ j = 2 ∨ j = 3) with rfl | rfl | rfl | rfl <;> kernel_rfl) ?_
              intro f w' hG hfr hp K hK
              have g134 : f 134 = .pointer (some ⟨eb2, 0, none⟩) := hp 34 _ 134 rfl rfl (by kernel_rfl)
              clear hfr hp
              obtain ⟨v1, v2, g123, g126, hE⟩ := hG
              go_simp
              refine (hE.c2 _ (Chg.refl _ _)).mono ?_
              rintro e wa hX
              obtain ⟨rfl, rfl⟩ := hX
              exact hK _ _ (fun _ => rfl) ⟨v1, v2, g123, g126, hE⟩
            · refine StepPT.reg (fun f hp => wanted_on 29 129 true rfl rfl rfl (by decide) (hp 29 _ 129 rfl rfl (by kernel_rfl))) (by decide) (fun d hd => by cases hd; decide) ?_
              intro f w' p hG hup hdn hfr hp K hK
              have g132 : f 132 = .int .i64 (cc : Int) := hp 32 _ 132 rfl rfl (by kernel_rfl)
              have g135 : f 135 = .int .i64 (cc : Int) := hp 35 _ 135 rfl rfl (by kernel_rfl)
              clear hfr hp hup hdn
              go_simp
              exact hK _ _ (by simp) hG
            · refine StepPT.reg (fun f hp => wanted_none rfl) (by decide) (fun d hd => by cases hd; decide) ?_
              intro f w' p hG hup hdn hfr hp K hK
              have g129 : f 129 = .bool true := hp 29 _ 129 rfl rfl (by kernel_rfl)
              have g136 : f 136 = .bool true := hp 36 _ 136 rfl rfl (by kernel_rfl)
              clear hfr hp hup hdn
              go_simp
              exact hK _ _ rfl hG
            · refine StepPT.reg (fun f hp => wanted_none rfl) (by decide) (fun d hd => by cases hd; decide) ?_
              intro f w' p hG hup hdn hfr hp K hK
              have g137 : f 137 = .bool true := hp 37 _ 137 rfl rfl (by kernel_rfl)
              clear hfr hp hup hdn
              go_simp
              exact hK _ _ rfl hG
          · intro f w' hG hfr hR
            have g4 : f 4 = .bool true := hR 38 _ 4 rfl rfl
            have hlow := (LG.out _ _ _ _ hG).2.2
            clear hfr hR hG
            simp only [Fr]
            go_wp2_with fail
            go_ret
            exact ⟨by show Ending.returned (f 4) = _; rw [g4], HW.out _ hlow⟩
        · have HMM2 : Hid (m + 1 = (schd d7).length) := Lib.hid (by rw [h1, HMM.out])
          have HJ7 := Lib.hid hJ7
          have hmn2 : m + 1 ≤ nn := by
            rw [HMM2.out, HNN.out, HJ7.out.eq, schd_app, List.length_append]
            omega
          clear h1 h2 hJ7 x3
          go_wp2_with fail
          exact ⟨⟨z7, d7, r7, m + 1, by go_num, HMM2, HJ7⟩, by simp [intOf]; omega⟩
end Go.Proofs.YtldkapjeheiiaaaGreatDoor
