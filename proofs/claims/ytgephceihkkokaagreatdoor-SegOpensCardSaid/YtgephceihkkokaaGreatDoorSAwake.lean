/-
  The contract of awake; the first steps that all laws of rows share.
-/
import Derived.Test.YtgephceihkkokaaGreatDoorSOpen
import Derived.Test.YtgephceihkkokaaGreatDoorSApp2
import Derived.Test.YtgephceihkkokaaGreatDoorSNil
namespace Go.Proofs.YtgephceihkkokaaGreatDoor
open Go.RowKit Go.Deep
attribute [local go_sem] fr_opt

def xH : ByteArray := ⟨#[120]⟩
set_option maxRecDepth 100000 in
theorem plain_x (w : World) : Calls Tryz.prog 29 #[.string ⟨#[120]⟩] w fun e w' => e = .returned (.bool true) ∧ w = w' := by
  go_enter Tryz.func29, Tryz.ntmps29
  go_wp2_with fail
  go_loop [2, 3, 4] (fun r i _ => r = .bool false ∧ ∃ k : Nat, k ≤ 1 ∧ i = .int .i64 k) (fun _ i _ => 1 - (intOf i).toNat)
  case atStart => exact ⟨rfl, 0, by omega, rfl⟩
  case round =>
    obtain ⟨rfl, k, hk, rfl⟩ := hrel
    have hs : (⟨#[120]⟩ : ByteArray).size = 1 := rfl
    by_cases h0 : k = 0
    · subst h0
      have hc : ((⟨#[120]⟩ : ByteArray)[0]'(by decide)).toNat = 120 := rfl
      go_wp2_with fail
      exact ⟨⟨rfl, 1, by omega, rfl⟩, by simp [intOf]⟩
    · have h1 : k = 1 := by omega
      subst h1
      go_wp2_with fail
      go_ret
      exact ⟨rfl, rfl⟩

def tenS : ByteArray := ⟨#[48, 49, 50, 51, 52, 53, 54, 55, 56, 57]⟩
theorem new_calm (c : Int) : Calm 0 (newSt c) := ⟨Good.new c, rfl, rfl⟩
theorem newRow_ok (c : Int) (head : ByteArray) (size : Int) (hh : head.size ≤ 1048576) (h1 : 16 ≤ size) (h2 : size ≤ 4096) : RowOk 0 (newRow head size) (newSt c) :=
  ⟨new_calm c, Int.le_refl _, Int.le_refl _, Int.le_refl _, by show (0 : Int) ≤ 99999999; decide, h1, h2, hh, fun _ => rfl, fun h => absurd rfl h⟩
def aw1 : RowM := ⟨xH, 16, 0, 10, 16, 0, 0⟩
set_option maxHeartbeats 1000000 in
set_option maxRecDepth 100000 in
theorem awake_any (w : World) (ht : Tab10 w) : Calls Tryz.prog 8 #[] w fun e w' => e = .returned (.bool true) ∧ Chg (fun _ => False) w w' := by
  have HTB := Lib.hid ht
  clear ht
  go_enter Tryz.func8, Tryz.ntmps8
  go_wp2_with (go_at_call 9; refine (new_any 1000 _).mono ?_)
  rintro e w1 ⟨rfl, hd0, hb0⟩
  obtain ⟨g, hg⟩ : ∃ g : Gh, g = ⟨w.heap.size, none, []⟩ := ⟨_, rfl⟩
  have hgd : g.d = w.heap.size := by rw [hg]
  have hfp : ∀ k ∈ g.fp, w.heap.size ≤ k := fun k hk => by rw [hg] at hk; simp [Gh.fp] at hk; omega
  have hn : NoneOf ⟨#[120]⟩ g := fun e he => by rw [hg] at he; cases he
  rw [← hg] at hd0
  have hO : ∀ W, Chg (fun _ => False) w1 W → _ := fun W hc => open_none w g (newSt 1000) ⟨#[120]⟩ 16 W (hd0.new hc) ((Chg.of_below hb0).trans hc (fun _ _ x => x)) hfp HTB.out hn (by decide) rfl (by decide) (by decide)
  rw [hgd] at hO
  have HO := Lib.hid hO
  have HB0 := Lib.hid hb0
  clear hO hd0 hb0 hg hgd hfp hn
  go_wp2_with (go_at_call 10; refine (HO.out _ (by first | exact Chg.refl _ _ | exact (Chg.refl _ _).drew)).mono ?_)
  rintro e w2 ⟨b, rfl, hb, hg2, hc2⟩
  have HA : Hid (∀ W, Chg (fun _ => False) w2 W → Calls Tryz.prog 12 #[.pointer (some ⟨b, 0, none⟩), .string ⟨#[48, 49, 50, 51, 52, 53, 54, 55, 56, 57]⟩] W (AppTo w W b g (newSt 1000) (newRow ⟨#[120]⟩ 16) ⟨#[48, 49, 50, 51, 52, 53, 54, 55, 56, 57]⟩)) := fun W hc =>
    append_ok w b g (newSt 1000) (newRow ⟨#[120]⟩ 16) ⟨#[48, 49, 50, 51, 52, 53, 54, 55, 56, 57]⟩ 0 W (hg2.new hc) (newRow_ok 1000 _ _ (by decide) (by decide) (by decide)) (by decide) (by decide) (by decide) (by decide)
  clear hb hg2 hc2
  go_wp2_with (go_at_call 12; refine (HA.out _ (by first | exact Chg.refl _ _ | exact (Chg.refl _ _).drew)).mono ?_)
  rintro e w3 ⟨rfl, g3, hg3, ht3⟩
  have hm : appM (newRow ⟨#[120]⟩ 16) (⟨#[48, 49, 50, 51, 52, 53, 54, 55, 56, 57]⟩ : ByteArray).size = ⟨⟨#[120]⟩, 16, 0, 10, 16, 0, 0⟩ := rfl
  rw [hm] at hg3
  have hR : ∀ W, Chg (fun _ => False) w3 W → Calls Tryz.prog 21 #[.pointer (some ⟨b, 0, none⟩)] W fun e w' => e = .returned (.int .i64 6) ∧ ∃ q, w' = W.drewN q := fun W hc => by
    have := rroom_any b g3.d ⟨⟨#[120]⟩, 16, 0, 10, 16, 0, 0⟩ W (hg3.new hc).row (by decide) (by decide) (by decide)
    exact this
  have HR := Lib.hid hR
  have HC3 := Lib.hid hg3.chg
  have e0 : (newRow ⟨#[120]⟩ 16).end_ = 0 := rfl
  clear hg3 hR ht3 hm
  go_wp2_with (first
    | (go_at_call 21; refine (HR.out _ (by first | exact Chg.refl _ _ | exact (Chg.refl _ _).drew)).mono ?_; rintro e w4 ⟨rfl, q, rfl⟩)
    | (go_at_call 29; refine (plain_x _).mono ?_; rintro e w5 ⟨rfl, rfl⟩))
  go_ret
  refine ⟨rfl, ?_⟩
  first | exact HC3.out.drewN _ | exact (HC3.out.drewN _).drew | exact HC3.out.drew.drewN _
end Go.Proofs.YtgephceihkkokaaGreatDoor
