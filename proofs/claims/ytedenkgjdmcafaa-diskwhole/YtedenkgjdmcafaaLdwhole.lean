/-
  The walk of the law DiskWhole.
-/
import Derived.Test.YtedenkgjdmcafaaLdcrashes
import Derived.WalkSpells
namespace Go.Proofs.Ytedenkgjdmcafaa
open Go.ChangeShapes Go.WideShapes Go.ChangeAt Go.RowKit

theorem put_set (F : Dk.Fl) (f : Nat) (s : ByteArray) : Dk.after F [⟨f, s, true⟩] 1 f = s := by simp [Dk.after, Dk.put, Dk.units]
theorem put_oth (F : Dk.Fl) (f i : Nat) (s : ByteArray) (h : i ≠ f) : Dk.after F [⟨f, s, true⟩] 1 i = F i := by simp [Dk.after, Dk.put, h]
/-- behind a crash there are the old bytes, or the new ones -/
theorem whole_at (K : Dk.Fl) (O N : ByteArray) (m : Nat) (hK : K 3 = O) (hm : m < 4) : Dk.after K [⟨1, ⟨#[97, 98]⟩, false⟩, ⟨3, N, true⟩] m 3 = if m = 3 then N else O := by
  have hu : Dk.units ⟨1, ⟨#[97, 98]⟩, false⟩ = 2 := rfl
  simp only [Dk.after, hu]
  rcases (by omega : m = 0 ∨ m = 1 ∨ m = 2 ∨ m = 3) with rfl | rfl | rfl | rfl <;> simp [Dk.put, Dk.units, hK]

set_option maxHeartbeats 4000000 in
set_option maxRecDepth 100000 in
theorem dwhole_walk (old now : ByteArray) (n : Int) (w : World) (ho : old.size ≤ maxLen) (hn : now.size ≤ maxLen) (_n0 : -9223372036854775808 ≤ n) (_n1 : n ≤ 9223372036854775807) :
    Calls Try.prog 6 #[.string old, .string now, .int .i64 n] w fun e w' => e = .returned (.bool true) ∧ Kept w w' := by
  unfold maxLen at ho hn
  have hm := and_mask n 65535 (by decide)
  simp only [Int.cast_ofNat_Int] at hm
  obtain ⟨M, hM⟩ : ∃ M : Nat, bits BinOp.and IntKind.i64 n 65535 = (M : Int) := ⟨(bits BinOp.and IntKind.i64 n 65535).toNat, by omega⟩
  rw [hM] at hm
  have HM := Lib.hid hM
  clear hM
  have a1 : 0 ≤ min (old.size : Int) 2000 := by omega
  have a2 : min (old.size : Int) 2000 ≤ (old.size : Int) := by omega
  have a3 : 0 ≤ min (now.size : Int) 2000 := by omega
  have a4 : min (now.size : Int) 2000 ≤ (now.size : Int) := by omega
  have so : (old.extract 0 (min (old.size : Int) 2000).toNat).size ≤ 2000 := by rw [ByteArray.size_extract]; omega
  have sn : (now.extract 0 (min (now.size : Int) 2000).toNat).size ≤ 2000 := by rw [ByteArray.size_extract]; omega
  go_enter Try.func6, Try.ntmps6
  go_wp2_with fail
  refine (new_disk _).mono ?_
  rintro e w1 ⟨rfl, x1, k1⟩
  obtain ⟨base, hbase⟩ : ∃ base, base = w.heap.size := ⟨_, rfl⟩
  rw [← hbase] at x1 ⊢
  obtain ⟨b, hb⟩ : ∃ b, b = base := ⟨_, rfl⟩
  have x1 : Dsk w1 base b dk0 (.slice none 0 0) [] := by rw [hb]; exact x1
  rw [show (Value.pointer (some ⟨base, 0, none⟩)) = .pointer (some ⟨b, 0, none⟩) by rw [hb]]
  have HB : Hid (w.heap.size ≤ base) := by show _ ≤ _; omega
  have X1 := Lib.hid x1
  have K1 := Lib.hid k1
  clear x1 k1 hb hbase
  go_wp2_with fail
  generalize old.extract 0 (min (old.size : Int) 2000).toNat = O at so ⊢
  generalize now.extract 0 (min (now.size : Int) 2000).toNat = N at sn ⊢
  clear a1 a2 a3 a4
  refine (replace_is 3 O 0 [⟨3, O, true⟩] _ X1.out (by decide) (by unfold maxLen; omega) (by simp [Dk.ansR]; omega) rfl).mono ?_
  rintro e w2 ⟨rfl, v2, x, _, f⟩
  have X2 := Lib.hid x
  have K2 := Lib.hid (X1.out.still HB.out K1.out f)
  clear x f X1 K1
  go_wp2_with fail
  refine (sync_is (K' := Dk.after dk0 [⟨3, O, true⟩] 1) _ X2.out rfl).mono ?_
  rintro e w3 ⟨rfl, x, f⟩
  have K3 := Lib.hid (X2.out.still HB.out K2.out f)
  obtain ⟨Q, hQ⟩ : ∃ Q, Q = Dk.after dk0 [⟨3, O, true⟩] 1 := ⟨_, rfl⟩
  rw [← hQ] at x
  have hQ3 : Q 3 = O := by rw [hQ]; exact put_set dk0 3 O
  have hQ1 : Q 1 = ⟨#[]⟩ := by rw [hQ]; exact put_oth dk0 3 1 O (by decide)
  have X3 := Lib.hid x
  have hQ0 : Q 0 = ⟨#[]⟩ := by rw [hQ]; exact put_oth dk0 3 0 O (by decide)
  have HQ0 := Lib.hid hQ0
  have HQ3 := Lib.hid hQ3
  have HQ1 := Lib.hid hQ1
  clear x f X2 K2 hQ hQ3 hQ1 hQ0
  go_wp2_with fail
  refine (append_is 1 ⟨#[97, 98]⟩ 0 [⟨1, ⟨#[97, 98]⟩, false⟩] _ X3.out (by decide) (by decide) (by
    unfold Dk.ansA
    rw [if_pos (by decide), show (1 : Int).toNat = 1 from rfl, show Dk.after Q [] (Dk.total []) 1 = Q 1 from rfl, HQ1.out]
    rfl) rfl).mono ?_
  rintro e w4 ⟨rfl, v4, x, _, f⟩
  have X4 := Lib.hid x
  have K4 := Lib.hid (X3.out.still HB.out K3.out f)
  clear x f X3 K3
  go_wp2_with fail
  refine (replace_is 3 N 0 [⟨1, ⟨#[97, 98]⟩, false⟩, ⟨3, N, true⟩] _ X4.out (by decide) (by unfold maxLen; omega) (by simp [Dk.ansR]; omega) rfl).mono ?_
  rintro e w5 ⟨rfl, v5, x, _, f⟩
  have X5 := Lib.hid x
  have K5 := Lib.hid (X4.out.still HB.out K4.out f)
  clear x f X4 K4
  go_wp2_with fail
  obtain ⟨m, hmm⟩ : ∃ m : Nat, (bits BinOp.and IntKind.i64 n 65535).tmod 4 = (m : Int) := ⟨M % 4, by rw [HM.out, Int.tmod_eq_emod_of_nonneg (by omega)]; omega⟩
  have hm4 : m < 4 := by rw [HM.out, Int.tmod_eq_emod_of_nonneg (by omega)] at hmm; omega
  rw [hmm]
  clear hmm hm HM
  refine (crash_is (K' := Dk.after Q [⟨1, ⟨#[97, 98]⟩, false⟩, ⟨3, N, true⟩] m) (m : Int) ((min m 3 : Nat) : Int) _ X5.out (by omega) (by omega) rfl rfl).mono ?_
  rintro e w6 ⟨rfl, x, f⟩
  have K6 := Lib.hid (X5.out.still HB.out K5.out f)
  have hat := whole_at Q O N m HQ3.out hm4
  have hat0 : Dk.after Q [⟨1, ⟨#[97, 98]⟩, false⟩, ⟨3, N, true⟩] m 0 = ⟨#[]⟩ := by
    have hq0 : Q 0 = ⟨#[]⟩ := HQ0.out
    simp only [Dk.after, show Dk.units ⟨1, ⟨#[97, 98]⟩, false⟩ = 2 from rfl, show Dk.units ⟨3, N, true⟩ = 1 from rfl]
    simp [Dk.put, hq0]
  generalize Dk.after Q [⟨1, ⟨#[97, 98]⟩, false⟩, ⟨3, N, true⟩] m = Z at x hat hat0
  have X6 := Lib.hid x
  have HAT := Lib.hid hat
  have HAT0 := Lib.hid hat0
  clear x f X5 K5 hat hat0
  obtain ⟨k, hk⟩ : ∃ k : Nat, k = 65537 := ⟨_, rfl⟩
  have f1 : ∀ W : World, (Instr.makeSlice 45 (.int .i64 65537) (.int .i64 65537)).run Try.prog W = .ok (.slice (some ⟨W.heap.size, 0, none⟩) k k) (W.alloc (.cells (byteRow (List.replicate k 0)) 5)) := fun W => by
    have := make_bytes k (by omega) W
    rw [show ((k : Nat) : Int) = 65537 by omega] at this
    exact this
  have f2 : ∀ W : World, (convert 45 9 (.slice (some ⟨W.heap.size, 0, none⟩) k k)).run Try.prog (W.alloc (.cells (byteRow (List.replicate k 0)) 5)) = .ok (.string ⟨(List.replicate k (0 : UInt8)).toArray⟩) (W.alloc (.cells (byteRow (List.replicate k 0)) 5)) := fun W => by
    have := run_convert_bytes_back (P := Try.prog) (W.alloc (.cells (byteRow (List.replicate k 0)) 5)) 45 9 5 ⟨W.heap.size, 0, none⟩ k (List.replicate k (0 : UInt8)) Try.underlying45 Try.underlying5 Try.underlying9 fun j hj => by
      have hadd : (⟨W.heap.size, 0, none⟩ : Addr).add j = ⟨W.heap.size, j, none⟩ := by rw [Go.WideShapes.add_plain, Nat.zero_add]
      rw [hadd, World.cell?_alloc_at _ _ _ _ rfl, byteRow_at, List.getElem?_eq_getElem hj]
      rfl
    rwa [List.length_replicate] at this
  obtain ⟨Big, hBig⟩ : ∃ Big : ByteArray, Big = ⟨(List.replicate k (0 : UInt8)).toArray⟩ := ⟨_, rfl⟩
  have hsz : Big.size = 65537 := by rw [hBig, ← hk]; simp [ByteArray.size]
  rw [← hBig] at f2
  generalize byteRow (List.replicate k 0) = BR at f1 f2
  have HSZ := Lib.hid hsz
  have hb1 : 65536 ≤ Big.size := by omega
  have hb2 : Big.size ≤ 65537 := by omega
  have se : (Big.extract 0 65536).size = 65536 := by rw [ByteArray.size_extract]; omega
  have SE := Lib.hid se
  clear hBig hsz hk se
  have f2' := f2 w6
  clear f2
  have kb : Kept w6 (w6.alloc (.cells BR 5)) := (Kept.refl w6).alloc _
  have KB := Lib.hid kb
  clear kb
  have WANT : Hid ((m = 3 ∧ Z 3 = N) ∨ (m ≠ 3 ∧ Z 3 = O)) := by
    rw [HAT.out]
    by_cases h : m = 3
    · exact .inl ⟨h, if_pos h⟩
    · exact .inr ⟨h, if_neg h⟩
  rcases WANT.out with ⟨h3, hz⟩ | ⟨h3, hz⟩
  · subst h3
    have HZ := Lib.hid hz
    clear hz WANT HAT
    go_wp2_with fail
    refine (read_is 3 N _ (X6.out.kept KB.out) (by rw [← HZ.out]; rfl)).mono ?_
    rintro e w7 ⟨rfl, k7⟩
    have X7 := Lib.hid ((X6.out.kept KB.out).kept k7)
    have K7 := Lib.hid ((K6.out.trans KB.out).trans k7)
    clear k7 X6 K6 KB f1 f2'
    go_wp2_with fail
    refine (replace_is 0 Big 2 [] _ X7.out (by decide) (by unfold maxLen; omega) (by unfold Dk.ansR; rw [if_pos (by decide), if_neg (by have := HSZ.out; omega)]) rfl).mono ?_
    rintro e w8 ⟨rfl, v8, x, _, f⟩
    have X8 := Lib.hid x
    have K8 := Lib.hid (X7.out.still HB.out K7.out f)
    clear x f X7 K7
    go_wp2_with fail
    have hBB : (Big.extract 0 65536).size = 65536 := SE.out
    generalize Big.extract 0 65536 = BB at hBB SE ⊢
    refine (replace_is 0 BB 0 [⟨0, BB, true⟩] _ X8.out (by decide) (by unfold maxLen; omega) (by unfold Dk.ansR; rw [if_pos (by decide), if_pos (by omega)]) rfl).mono ?_
    rintro e w9 ⟨rfl, v9, x, _, f⟩
    have X9 := Lib.hid x
    have K9 := Lib.hid (X8.out.still HB.out K8.out f)
    have HN0 : Hid (Dk.after Z [⟨0, BB, true⟩] (Dk.total [⟨0, BB, true⟩]) 0 = BB) := put_set Z 0 BB
    clear x f X8 K8 hBB
    go_wp2_with fail
    refine (append_is 0 ⟨#[120]⟩ 2 [⟨0, BB, true⟩] _ X9.out (by simp) (by decide) (by
      unfold Dk.ansA
      rw [if_pos (by decide), show (0 : Int).toNat = 0 from rfl, HN0.out, if_neg (by rw [SE.out]; decide)]) rfl).mono ?_
    rintro e w10 ⟨rfl, v10, x, _, f⟩
    have X10 := Lib.hid x
    have K10 := Lib.hid (X9.out.still HB.out K9.out f)
    clear x f X9 K9
    go_wp2_with fail
    refine (append_is 0 ⟨#[]⟩ 0 [⟨0, BB, true⟩] _ X10.out (by simp) (by decide) (by
      unfold Dk.ansA
      rw [if_pos (by decide), show (0 : Int).toNat = 0 from rfl, HN0.out, if_pos (by rw [SE.out]; decide)]) rfl).mono ?_
    rintro e w11 ⟨rfl, v11, x, _, f⟩
    have K11 := Lib.hid (X10.out.still HB.out K10.out f)
    clear x f X10 K10
    go_wp2_with fail
    refine (fix_any _).mono ?_
    rintro e w12 ⟨rfl, k12⟩
    have K12 := Lib.hid (K11.out.trans k12)
    clear k12 K11
    go_wp2
    go_ret
    exact ⟨rfl, K12.out⟩
  · have e3 : ((m : Int) == 3) = false := by rw [beq_eq_false_iff_ne]; omega
    have HZ := Lib.hid hz
    clear hz WANT HAT h3
    go_wp2_with fail
    refine (read_is 3 O _ (X6.out.kept KB.out) (by rw [← HZ.out]; rfl)).mono ?_
    rintro e w7 ⟨rfl, k7⟩
    have X7 := Lib.hid ((X6.out.kept KB.out).kept k7)
    have K7 := Lib.hid ((K6.out.trans KB.out).trans k7)
    clear k7 X6 K6 KB f1 f2'
    go_wp2_with fail
    refine (replace_is 0 Big 2 [] _ X7.out (by decide) (by unfold maxLen; omega) (by unfold Dk.ansR; rw [if_pos (by decide), if_neg (by have := HSZ.out; omega)]) rfl).mono ?_
    rintro e w8 ⟨rfl, v8, x, _, f⟩
    have X8 := Lib.hid x
    have K8 := Lib.hid (X7.out.still HB.out K7.out f)
    clear x f X7 K7
    go_wp2_with fail
    have hBB : (Big.extract 0 65536).size = 65536 := SE.out
    generalize Big.extract 0 65536 = BB at hBB SE ⊢
    refine (replace_is 0 BB 0 [⟨0, BB, true⟩] _ X8.out (by decide) (by unfold maxLen; omega) (by unfold Dk.ansR; rw [if_pos (by decide), if_pos (by omega)]) rfl).mono ?_
    rintro e w9 ⟨rfl, v9, x, _, f⟩
    have X9 := Lib.hid x
    have K9 := Lib.hid (X8.out.still HB.out K8.out f)
    have HN0 : Hid (Dk.after Z [⟨0, BB, true⟩] (Dk.total [⟨0, BB, true⟩]) 0 = BB) := put_set Z 0 BB
    clear x f X8 K8 hBB
    go_wp2_with fail
    refine (append_is 0 ⟨#[120]⟩ 2 [⟨0, BB, true⟩] _ X9.out (by simp) (by decide) (by
      unfold Dk.ansA
      rw [if_pos (by decide), show (0 : Int).toNat = 0 from rfl, HN0.out, if_neg (by rw [SE.out]; decide)]) rfl).mono ?_
    rintro e w10 ⟨rfl, v10, x, _, f⟩
    have X10 := Lib.hid x
    have K10 := Lib.hid (X9.out.still HB.out K9.out f)
    clear x f X9 K9
    go_wp2_with fail
    refine (append_is 0 ⟨#[]⟩ 0 [⟨0, BB, true⟩] _ X10.out (by simp) (by decide) (by
      unfold Dk.ansA
      rw [if_pos (by decide), show (0 : Int).toNat = 0 from rfl, HN0.out, if_pos (by rw [SE.out]; decide)]) rfl).mono ?_
    rintro e w11 ⟨rfl, v11, x, _, f⟩
    have K11 := Lib.hid (X10.out.still HB.out K10.out f)
    clear x f X10 K10
    go_wp2_with fail
    refine (fix_any _).mono ?_
    rintro e w12 ⟨rfl, k12⟩
    have K12 := Lib.hid (K11.out.trans k12)
    clear k12 K11
    go_wp2
    go_ret
    exact ⟨rfl, K12.out⟩
end Go.Proofs.Ytedenkgjdmcafaa
