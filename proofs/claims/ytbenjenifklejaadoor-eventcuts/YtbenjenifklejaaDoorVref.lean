/-
  The walks of the document's own answers: big, Put, Text, Less.
-/
import Derived.Test.YtbenjenifklejaaDoorVcut
import Derived.Test.YtbenjenifklejaaDoorVless
import Derived.Deep.RegionHeld3
namespace Go.Proofs.YtbenjenifklejaaDoor
open Go.ChangeShapes Go.WideShapes Go.ChangeAt Go.RowKit

theorem conv_one (c : Int) (b : UInt8) (hb : c = (b.toNat : Int)) (W : World) (g cap : Nat) (h : W.cell? ⟨g, 0, none⟩ = some (.int .u8 c)) :
    (convert 83 9 (.slice (some ⟨g, 0, none⟩) 1 cap)).run Tryd.prog W = .ok (.string ⟨#[b]⟩) W := by
  subst hb
  refine run_convert_bytes_back W _ _ 5 _ cap [b] Tryd.underlying83 Tryd.underlying5 Tryd.underlying9 fun j hj => ?_
  have hj0 : j = 0 := by simpa using hj
  subst hj0
  exact h

set_option maxHeartbeats 1000000 in
theorem big_step (n : Int) (k : Nat) (w : World) (h0 : 0 ≤ n) (h1 : n ≤ 18446744073709551615) (hk : k + 1 ≤ 100)
    (ih : Hid (∀ (W : World) (a b : Int), a = n / 256 → b = (k : Int) → Calls Tryd.prog 55 #[.int .u64 a, .int .i64 b] W fun e w' => e = .returned (str (Vn.be k (n / 256).toNat)) ∧ Kept W w')) :
    Calls Tryd.prog 55 #[.int .u64 n, .int .i64 ((k : Int) + 1)] w fun e w' => e = .returned (str (Vn.be (k + 1) n.toNat)) ∧ Kept w w' := by
  have hcv := conv_one (n % 256) (UInt8.ofNat n.toNat) (by rw [UInt8.toNat_ofNat']; omega)
  obtain ⟨p, hp, sp⟩ : ∃ p : ByteArray, str (Vn.be k (n / 256).toNat) = .string p ∧ p.size = k := ⟨⟨(Vn.be k (n / 256).toNat).toArray⟩, rfl, by show (Vn.be k (n / 256).toNat).toArray.size = k; simp [Vn.be_length]⟩
  have hps : p.size ≤ 100 := by omega
  have Hp := Lib.hid hp
  clear hp sp
  have hk1 : (((k : Int) + 1) == 0) = false := by simp only [beq_eq_false_iff_ne]; omega
  have r1 : n.tdiv 256 = n / 256 := Int.tdiv_eq_ediv_of_nonneg h0
  have r2 : IntKind.u64.wrap (n / 256) = n / 256 := by simp [IntKind.wrap, IntKind.signed, IntKind.bits]; omega
  have r3 : IntKind.i64.wrap (k : Int) = (k : Int) := by rw [IntKind.wrap_i64]; omega
  have r4 : n.tmod 256 = n % 256 := Int.tmod_eq_emod_of_nonneg h0
  have r5 : IntKind.u8.wrap (n % 256) = n % 256 := by simp [IntKind.wrap, IntKind.signed, IntKind.bits]
  go_enter Tryd.func55, Tryd.ntmps55
  go_wp2_with fail
  go_region_with (first
    | (go_at_call 55; refine (ih.out _ _ _ rfl rfl).mono ?_; rintro e w1 ⟨rfl, e1⟩; rw [Hp.out]; have hold := fun b o h => Below.cell e1 (p := ⟨b, o, none⟩) h))
  all_goals
    clear hold
    go_wp2
    go_ret
    refine ⟨?_, ?_⟩
    · refine Eq.trans (b := Ending.returned (.string (p ++ ⟨#[UInt8.ofNat n.toNat]⟩))) rfl ?_
      have hp := Hp.out
      unfold str at hp
      simp only [Value.string.injEq] at hp
      rw [← hp, str, Vn.be, show (n / 256).toNat = n.toNat / 256 by omega, str_append]
    · first
      | exact ((Kept.drew (Kept.refl w)).trans e1).alloc _
      | exact (Kept.drew (Kept.alloc (Kept.refl w) _)).trans e1
theorem big_any : ∀ (k : Nat) (n : Int) (w : World), 0 ≤ n → n ≤ 18446744073709551615 → k ≤ 100 →
    Calls Tryd.prog 55 #[.int .u64 n, .int .i64 (k : Int)] w fun e w' => e = .returned (str (Vn.be k n.toNat)) ∧ Kept w w'
  | 0, n, w, _, _, _ => by
    go_enter Tryd.func55, Tryd.ntmps55
    go_wp2
    go_ret
    exact ⟨rfl, Kept.refl _⟩
  | k + 1, n, w, h0, h1, hk => by
    have ih := big_any k
    have h := big_step n k w h0 h1 hk (fun W a b ha hb => by subst ha hb; exact ih (n / 256) W (by omega) (by omega) (by omega))
    rw [Int.natCast_add]
    exact h
end Go.Proofs.YtbenjenifklejaaDoor
