/-
  The contract of Do.
-/
import Derived.Test.YtmoehmclcegmnaaDGoodC
import Derived.Test.YtmoehmclcegmnaaDRename
namespace Go.Proofs.Ytmoehmclcegmnaa
open Go.RowKit Go.Deep
attribute [local go_sem] fr_opt

/-- An operation, as the law draws it. -/
structure OpM where
  kind : Int
  at_ : Int
  name : ByteArray
  to_ : ByteArray
  data : ByteArray
  vn : Value
  names : List ByteArray
  vk : Value
  bs : List Bool
  lack : Int
def OpM.val (o : OpM) : Value := .agg #[.int .i64 o.kind, .int .i64 o.at_, .string o.name, .string o.to_, .string o.data, o.vn, o.vk, .int .i64 o.lack]
structure OpIn (w : World) (g : Gh) (o : OpM) : Prop where
  names : Strs w 0 o.vn o.names
  keep : BoolsOf w o.vk o.bs
  outN : Out g o.vn
  outK : Out g o.vk
  name : o.name.size ≤ maxLen
  to_ : o.to_.size ≤ maxLen
  data : o.data.size ≤ 1073741824
  each : ∀ t ∈ o.names, t.size ≤ maxLen
  len : o.names.length ≤ 1099511627776
  bits : o.bs.length ≤ 1099511627776
  max : o.at_ ≤ 9223372036854775807
def doE (st : St) (o : OpM) : Int :=
  if o.kind = 0 then createE st o.name else if o.kind = 1 then writeE st o.name o.at_ o.data else if o.kind = 2 then syncE st o.names else if o.kind = 3 then cutE st o.name o.at_
  else if o.kind = 4 then renameE st o.name else if o.kind = 5 then deleteE st o.names else 0
def doS (st : St) (o : OpM) : St :=
  if o.kind = 0 then createS st o.name else if o.kind = 1 then writeS st o.name o.at_ o.data else if o.kind = 2 then syncS st o.names else if o.kind = 3 then cutS st o.name o.at_
  else if o.kind = 4 then renameS st o.name o.to_ else if o.kind = 5 then deleteS st o.names else if o.kind = 6 then fuseS st o.at_ else st
def DoTo (g : Gh) (st : St) (o : OpM) (w : World) (e : Ending) (w' : World) : Prop :=
  if o.kind = 7 then e = .returned (.int .i64 0) ∧ ∃ l g', l.Perm (waitsOf g.es) ∧ Sorted l ∧ DiskAt w' g' (crashS st (imgs (g.es.map skel) (cutLast (keepL l o.bs) o.lack))) ∧ Gh.To w g g' w'
  else OpTo g (doE st o) (doS st o) w e w'
theorem Good.doS {n : Nat} {st : St} (h : Good n st) (o : OpM) (ho : o.at_ ≤ 9223372036854775807) : Good (n + 1) (doS st o) := by
  unfold Go.Proofs.Ytmoehmclcegmnaa.doS
  have h0 := Nat.le_succ n
  split
  · exact h.create _
  split
  · exact h.write _ _ _
  split
  · exact (h.sync _).more h0
  split
  · exact (h.cut _ _).more h0
  split
  · exact (h.rename _ _).more h0
  split
  · exact (h.delete _).more h0
  split
  · exact (h.fuseS _ ho).more h0
  · exact h.more h0
theorem OpTo.from {g : Gh} {k : Int} {st : St} {w w0 : World} {e : Ending} {w' : World} (hc : Chg (fun _ => False) w w0) (h : OpTo g k st w0 e w') : OpTo g k st w e w' := by
  obtain ⟨h1, g', h2, h3⟩ := h
  exact ⟨h1, g', h2, (Gh.To.new g hc).trans h3⟩
theorem OpIn.new {w w' : World} {g : Gh} {o : OpM} (h : OpIn w g o) (hc : Chg (fun _ => False) w w') : OpIn w' g o :=
  { h with
    names := by
      obtain ⟨a, cap, h1, h2⟩ := h.names
      refine ⟨a, cap, h1, ?_⟩
      rcases h2 with h2 | ⟨b, of, h3, h4, h5⟩
      · exact .inl h2
      · exact .inr ⟨b, of, h3, h4, fun i hi => hc.cell (h5 i hi) (fun x => x)⟩
    keep := h.keep.chg hc (fun _ _ _ _ _ x => x) }

/-- What Do's callees are asked, behind the box. -/
structure Pre (n : Nat) (g : Gh) (st : St) (o : OpM) (w W : World) : Prop where
  disk : DiskAt W g st
  good : Good n st
  op : OpIn W g o
  chg : Chg (fun _ => False) w W
theorem Pre.new {n : Nat} {g : Gh} {st : St} {o : OpM} {w W W' : World} (h : Pre n g st o w W) (hc : Chg (fun _ => False) W W') : Pre n g st o w W' :=
  ⟨h.disk.new hc, h.good, h.op.new hc, h.chg.trans hc (fun _ _ x => x)⟩
theorem pre_create {n : Nat} {g : Gh} {st : St} {o : OpM} {w W : World} (h : Pre n g st o w W) (hn : n ≤ 1048576) : Calls Try.prog 9 #[.pointer (some ⟨g.d, 0, none⟩), .string o.name] W (OpTo g (createE st o.name) (createS st o.name) w) :=
  (create_any g st o.name W h.disk h.op.name h.good.fuse (by have := h.good.len; omega)).mono fun _ _ hh => hh.from h.chg
theorem pre_write {n : Nat} {g : Gh} {st : St} {o : OpM} {w W : World} (h : Pre n g st o w W) (hn : n ≤ 1048576) : Calls Try.prog 10 #[.pointer (some ⟨g.d, 0, none⟩), .string o.name, .int .i64 o.at_, .string o.data] W (OpTo g (writeE st o.name o.at_ o.data) (writeS st o.name o.at_ o.data) w) :=
  (write_any g st o.name o.at_ o.data W h.disk h.op.name h.good.fuse h.op.data h.good.cap h.good.size (by have := h.good.turn; omega) (fun f hf => by
    have := h.good.within (by omega) (find_mem hf)
    exact ⟨this.2.1, this.2.2.1⟩)).mono fun _ _ hh => hh.from h.chg
theorem pre_sync {n : Nat} {g : Gh} {st : St} {o : OpM} {w W : World} (h : Pre n g st o w W) (hn : n ≤ 1048576) : Calls Try.prog 11 #[.pointer (some ⟨g.d, 0, none⟩), o.vn] W (OpTo g (syncE st o.names) (syncS st o.names) w) :=
  (syncd_any g st o.vn o.names W h.disk h.op.names h.op.outN h.op.each h.op.len h.good.fuse (h.good.allIn (by omega))).mono fun _ _ hh => hh.from h.chg
theorem Good.size24 {n : Nat} {st : St} (h : Good n st) : st.size ≤ 16777216 := Nat.le_trans h.size h.cap
theorem pre_cut {n : Nat} {g : Gh} {st : St} {o : OpM} {w W : World} (h : Pre n g st o w W) (hn : n ≤ 1048576) : Calls Try.prog 28 #[.pointer (some ⟨g.d, 0, none⟩), .string o.name, .int .i64 o.at_] W (OpTo g (cutE st o.name o.at_) (cutS st o.name o.at_) w) :=
  (cut_any g st o.name o.at_ W h.disk h.op.name h.good.fuse h.good.size24 h.good.sizeOk (fun f hf => ⟨h.good.allIn (by omega) _ (find_mem hf), (h.good.file hf).bytes⟩)).mono fun _ _ hh => hh.from h.chg
theorem pre_rename {n : Nat} {g : Gh} {st : St} {o : OpM} {w W : World} (h : Pre n g st o w W) (hn : n ≤ 1048576) : Calls Try.prog 29 #[.pointer (some ⟨g.d, 0, none⟩), .string o.name, .string o.to_] W (OpTo g (renameE st o.name) (renameS st o.name o.to_) w) :=
  (rename_any g st o.name o.to_ W h.disk h.op.name h.op.to_ h.good.fuse h.good.size24 h.good.sizeOk (by have := h.good.len; omega)).mono fun _ _ hh => hh.from h.chg
theorem pre_delete {n : Nat} {g : Gh} {st : St} {o : OpM} {w W : World} (h : Pre n g st o w W) : Calls Try.prog 30 #[.pointer (some ⟨g.d, 0, none⟩), o.vn] W (OpTo g (deleteE st o.names) (deleteS st o.names) w) :=
  (delete_any g st o.vn o.names W h.disk h.op.names h.op.outN h.op.each h.op.len h.good.fuse h.good.sizeOk h.good.size24).mono fun _ _ hh => hh.from h.chg
theorem pre_fuse {n : Nat} {g : Gh} {st : St} {o : OpM} {w W : World} (h : Pre n g st o w W) : Calls Try.prog 31 #[.pointer (some ⟨g.d, 0, none⟩), .int .i64 o.at_] W (fun e w' => e = .returned (.tuple #[]) ∧ ∃ g', DiskAt w' g' (fuseS st o.at_) ∧ Gh.To w g g' w') :=
  (fuse_any g st o.at_ W h.disk).mono fun _ _ hh => ⟨hh.1, g, hh.2.1, (Gh.To.new g h.chg).trans hh.2.2⟩
theorem sum_len_le {n : Nat} {fs : List (ByteArray × FileM)} (h : ∀ p ∈ fs, GoodF n p.2) : (fs.map fun p => p.2.writes.length).sum ≤ fs.length * n := by
  induction fs with
  | nil => simp
  | cons p l ih =>
    have h1 := ih fun q hq => h q (List.mem_cons_of_mem _ hq)
    have h2 := (h p (List.mem_cons_self ..)).count
    rw [List.map_cons, List.sum_cons, List.length_cons, Nat.succ_mul]
    omega
theorem Good.waits {n : Nat} {st : St} (h : Good n st) (hn : n ≤ 1048576) : st.waits ≤ 1099511627776 := by
  have h1 := sum_len_le h.files
  have h2 : st.fs.length * n ≤ 1048576 * 1048576 := Nat.mul_le_mul (Nat.le_trans h.len hn) hn
  exact Nat.le_trans h1 (Nat.le_trans h2 (by decide))
theorem pre_crash {n : Nat} {g : Gh} {st : St} {o : OpM} {w W : World} (h : Pre n g st o w W) (hn : n ≤ 1048576) : Calls Try.prog 15 #[.pointer (some ⟨g.d, 0, none⟩), .agg #[o.vk, .int .i64 o.lack]] W (fun e w' => e = .returned (.tuple #[]) ∧ ∃ l g', l.Perm (waitsOf g.es) ∧ Sorted l ∧ DiskAt w' g' (crashS st (imgs (g.es.map skel) (cutLast (keepL l o.bs) o.lack))) ∧ Gh.To w g g' w') :=
  (crash_any g st o.vk o.bs o.lack W h.disk h.op.keep (h.good.waits hn) h.op.bits (h.good.allIn (by omega)) (fun l hp _ => by
    have h1 := (h.good.crash o.bs o.lack h.disk hp).size
    have h2 : (crashS st (imgs (g.es.map skel) (cutLast (keepL l o.bs) o.lack))).cap = st.cap := rfl
    have h3 := h.good.cap
    rw [h2] at h1
    exact Nat.le_trans h1 (by omega))).mono fun _ _ hh => by
      obtain ⟨h1, l, g', h2, h3, h4, h5⟩ := hh
      exact ⟨h1, l, g', h2, h3, h4, (Gh.To.new g h.chg).trans h5⟩

theorem doTo_op {g : Gh} {st : St} {o : OpM} {w : World} {e : Ending} {w' : World} {k : Int} {s : St} (h7 : o.kind ≠ 7) (hE : doE st o = k) (hS : doS st o = s) (h : OpTo g k s w e w') : DoTo g st o w e w' := by
  unfold DoTo
  rw [if_neg h7, hE, hS]
  exact h
theorem doTo_crash {g : Gh} {st : St} {o : OpM} {w : World} {e : Ending} {w' : World} (h7 : o.kind = 7) (h : e = .returned (.int .i64 0) ∧ ∃ l g', l.Perm (waitsOf g.es) ∧ Sorted l ∧ DiskAt w' g' (crashS st (imgs (g.es.map skel) (cutLast (keepL l o.bs) o.lack))) ∧ Gh.To w g g' w') : DoTo g st o w e w' := by
  unfold DoTo
  rw [if_pos h7]
  exact h

set_option maxHeartbeats 4000000 in
set_option maxRecDepth 100000 in
theorem do_any (n : Nat) (g : Gh) (st : St) (o : OpM) (w : World) (h : DiskAt w g st) (hg : Good n st) (hn : n ≤ 1048576) (ho : OpIn w g o) :
    Calls Try.prog 12 #[.pointer (some ⟨g.d, 0, none⟩), o.val] w (DoTo g st o w) := by
  obtain ⟨kd, at_, nm, to_, data, vn, names, vk, bs, lack⟩ := o
  obtain ⟨an, cn, hvn⟩ := ho.names.form
  obtain ⟨ak, nk, ck, hvk⟩ : ∃ a n c, vk = .slice a n c := by
    obtain ⟨a, c, h1, _⟩ := ho.keep
    exact ⟨a, _, c, h1⟩
  simp only at hvn
  obtain ⟨nn, hnn⟩ : ∃ k, k = names.length := ⟨_, rfl⟩
  rw [← hnn] at hvn
  subst hvn
  subst hvk
  have HG := Lib.hid h
  have HGD := Lib.hid hg
  have HO := Lib.hid ho
  have HNN := Lib.hid hnn
  clear h hg ho hnn
  unfold OpM.val
  simp only
  go_enter Try.func12, Try.ntmps12
  have hp : Pre n g st ⟨kd, at_, nm, to_, data, .slice an nn cn, names, .slice ak nk ck, bs, lack⟩ w (w.alloc (.cells #[.int .i64 kd, .int .i64 at_, .string nm, .string to_, .string data, .slice an nn cn, .slice ak nk ck, .int .i64 lack] 36)) :=
    Pre.new ⟨HG.out, HGD.out, HO.out, Chg.refl _ _⟩ (Chg.alloc _ (Chg.refl _ _) _)
  obtain ⟨W0, hW0⟩ : ∃ W, W = w.alloc (.cells #[.int .i64 kd, .int .i64 at_, .string nm, .string to_, .string data, .slice an nn cn, .slice ak nk ck, .int .i64 lack] 36) := ⟨_, rfl⟩
  rw [← hW0] at hp
  have HP := Lib.hid hp
  clear hp
  go_wp2_with (first
    | (go_at_call 9; refine (pre_create (o := ⟨kd, at_, nm, to_, data, .slice an nn cn, names, .slice ak nk ck, bs, lack⟩) (hW0 ▸ HP.out) hn).mono ?_; rintro e w1 ⟨rfl, hO⟩)
    | (go_at_call 10; refine (pre_write (o := ⟨kd, at_, nm, to_, data, .slice an nn cn, names, .slice ak nk ck, bs, lack⟩) (hW0 ▸ HP.out) hn).mono ?_; rintro e w1 ⟨rfl, hO⟩)
    | (go_at_call 11; refine (pre_sync (o := ⟨kd, at_, nm, to_, data, .slice an nn cn, names, .slice ak nk ck, bs, lack⟩) (hW0 ▸ HP.out) hn).mono ?_; rintro e w1 ⟨rfl, hO⟩)
    | (go_at_call 28; refine (pre_cut (o := ⟨kd, at_, nm, to_, data, .slice an nn cn, names, .slice ak nk ck, bs, lack⟩) (hW0 ▸ HP.out) hn).mono ?_; rintro e w1 ⟨rfl, hO⟩)
    | (go_at_call 29; refine (pre_rename (o := ⟨kd, at_, nm, to_, data, .slice an nn cn, names, .slice ak nk ck, bs, lack⟩) (hW0 ▸ HP.out) hn).mono ?_; rintro e w1 ⟨rfl, hO⟩)
    | (go_at_call 30; refine (pre_delete (o := ⟨kd, at_, nm, to_, data, .slice an nn cn, names, .slice ak nk ck, bs, lack⟩) (hW0 ▸ HP.out)).mono ?_; rintro e w1 ⟨rfl, hO⟩)
    | (go_at_call 31; refine (pre_fuse (o := ⟨kd, at_, nm, to_, data, .slice an nn cn, names, .slice ak nk ck, bs, lack⟩) (hW0 ▸ HP.out)).mono ?_; rintro e w1 ⟨rfl, hO⟩)
    | (go_at_call 15; refine (pre_crash (o := ⟨kd, at_, nm, to_, data, .slice an nn cn, names, .slice ak nk ck, bs, lack⟩) (hW0 ▸ HP.out) hn).mono ?_; rintro e w1 ⟨rfl, hO⟩))
  all_goals go_ret
  all_goals first
    | (have hk : kd = 0 := by simpa using ‹(kd == 0) = true›
       exact doTo_op (k := createE st nm) (s := createS st nm) (by show kd ≠ 7; omega) (by subst hk; simp [doE]) (by subst hk; simp [doS]) ⟨rfl, hO⟩)
    | (have hk : kd = 1 := by simpa using ‹(kd == 1) = true›
       exact doTo_op (k := writeE st nm at_ data) (s := writeS st nm at_ data) (by show kd ≠ 7; omega) (by subst hk; simp [doE]) (by subst hk; simp [doS]) ⟨rfl, hO⟩)
    | (have hk : kd = 2 := by simpa using ‹(kd == 2) = true›
       exact doTo_op (k := syncE st names) (s := syncS st names) (by show kd ≠ 7; omega) (by subst hk; simp [doE]) (by subst hk; simp [doS]) ⟨rfl, hO⟩)
    | (have hk : kd = 3 := by simpa using ‹(kd == 3) = true›
       exact doTo_op (k := cutE st nm at_) (s := cutS st nm at_) (by show kd ≠ 7; omega) (by subst hk; simp [doE]) (by subst hk; simp [doS]) ⟨rfl, hO⟩)
    | (have hk : kd = 4 := by simpa using ‹(kd == 4) = true›
       exact doTo_op (k := renameE st nm) (s := renameS st nm to_) (by show kd ≠ 7; omega) (by subst hk; simp [doE]) (by subst hk; simp [doS]) ⟨rfl, hO⟩)
    | (have hk : kd = 5 := by simpa using ‹(kd == 5) = true›
       exact doTo_op (k := deleteE st names) (s := deleteS st names) (by show kd ≠ 7; omega) (by subst hk; simp [doE]) (by subst hk; simp [doS]) ⟨rfl, hO⟩)
    | (have hk : kd = 6 := by simpa using ‹(kd == 6) = true›
       exact doTo_op (k := 0) (s := fuseS st at_) (by show kd ≠ 7; omega) (by subst hk; simp [doE]) (by subst hk; simp [doS]) ⟨rfl, hO⟩)
    | (have hk : kd = 7 := by simpa using ‹(kd == 7) = true›
       exact doTo_crash hk ⟨rfl, hO⟩)
    | (have h7 : kd ≠ 7 := by simpa using ‹(kd == 7) = false›
       have hp := HP.out
       rw [hW0] at hp
       refine doTo_op (k := 0) (s := st) h7 ?_ ?_ ⟨rfl, g, hp.disk, Gh.To.new g hp.chg⟩ <;> simp_all [doE, doS])
    | skip
end Go.Proofs.Ytmoehmclcegmnaa
