/-
  The law's fixed calls.
-/
import Derived.Test.YtenhncohhikllaaDoorWbes
import Derived.Deep.DeepCutAuto
import Derived.Deep.RegionLaw
namespace Go.Proofs.YtenhncohhikllaaDoor
open Go.ChangeShapes Go.WideShapes Go.ChangeAt Go.RowKit

/-- texts that were just laid down -/
theorem strs_new (w : World) (l : List (List UInt8)) (t : TypeId) (h : l.length ≤ 1000) : Strs (w.alloc (.cells (l.map str).toArray t)) (.slice (some ⟨w.heap.size, 0, none⟩) l.length l.length) l :=
  ⟨_, _, rfl, Nat.le_refl _, by unfold maxLen; omega, .inr ⟨w.heap.size, 0, rfl, by rw [World.size_alloc]; exact Nat.lt_succ_self _, fun i x hx => by
    rw [World.cell?_alloc_at _ _ _ _ rfl]
    simp [hx]⟩⟩
/-- the units of the calls of the law -/
theorem fix_last (x : Wg.St) : Wg.lastAt x [.app [98], .chk [115]] (Dk.total (Wg.allw x [.app [98], .chk [115]]) - 1) = (x.act (.app [98])).act (.chk [115]) := by
  have e1 : Dk.total (Wg.allw x [.app [98], .chk [115]]) = Dk.total (Wg.writes x (.app [98])) + 2 := by
    unfold Wg.allw Wg.allw Wg.allw
    rw [Dk.total_append, Dk.total_append]
    rfl
  have k1 := Wg.key_le x (.app [98])
  rw [e1]
  unfold Wg.lastAt
  rw [if_neg (by omega), if_neg (by omega)]
  unfold Wg.lastAt
  have e2 : Dk.total (Wg.writes x (.app [98])) + 2 - 1 - Dk.total (Wg.writes x (.app [98])) = 1 := by omega
  rw [e2]
  rfl
theorem fix_key (x : Wg.St) : Wg.allw x [.app [98], .chk [115]] = Wg.writes x (.app [98]) ++ Wg.writes (x.act (.app [98])) (.chk [115]) := by
  unfold Wg.allw Wg.allw Wg.allw
  rw [List.append_nil]

/-- a log that runs, whatever of its values -/
def Goes (w : World) (base b d : Nat) (K : Dk.Fl) (ws : List Dk.W) (x : Wg.St) (sure k : Nat) : Prop := ∃ v lv, Run w base b d K v ws x lv sure k

set_option maxHeartbeats 4000000 in
set_option maxRecDepth 100000 in
theorem fix_any (w : World) (hT : Tab w) : Calls Tryd.prog 24 #[] w fun e w' => e = .returned (.bool true) ∧ Kept w w' := by
  have HT := Lib.hid hT
  clear hT
  go_enter Tryd.func24, Tryd.ntmps24
  go_wp2_with fail
  refine (new_disk _).mono ?_
  rintro e w1 ⟨rfl, x1, k1⟩
  obtain ⟨base, hbase⟩ : ∃ base, base = w.heap.size := ⟨_, rfl⟩
  rw [← hbase] at x1 ⊢
  obtain ⟨d, hd⟩ : ∃ d, d = base := ⟨_, rfl⟩
  have x1 : Dsk w1 base d (fun _ => ⟨#[]⟩) (.slice none 0 0) [] := by rw [hd]; exact x1
  rw [show (Value.pointer (some ⟨base, 0, none⟩)) = .pointer (some ⟨d, 0, none⟩) by rw [hd]]
  have HB : Hid (w.heap.size ≤ base) := by show _ ≤ _; omega
  have X1 := Lib.hid x1
  have K1 := Lib.hid k1
  clear x1 k1 hd hbase
  go_wp2_with fail
  refine (run_open (k := 0) w1 X1.out (by decide) HT.out HB.out K1.out stands_new (Nat.le_refl _) (by decide) (Nat.le_refl _) (Nat.zero_le _) (by simp)).mono ?_
  rintro e w2 ⟨b, lv, rfl, x2, _, _, f⟩
  have X2 := Lib.hid x2
  have K2 := Lib.hid (X1.out.still HB.out K1.out f)
  clear x2 f X1 K1
  generalize Wg.opened (nowF (fun _ => ⟨#[]⟩) []) = K at X2
  go_wp2_with fail
  refine (run_app ⟨#[97]⟩ w2 X2.out (by decide) (by decide) (HT.out.kept K2.out)).mono ?_
  rintro e w3 ⟨rfl, v3, lv3, x3, _, _, f⟩
  have X3 := Lib.hid x3
  have K3 := Lib.hid (X2.out.ld.still HB.out K2.out f)
  clear x3 f X2 K2
  go_wp2_with fail
  refine (run_sync w3 X3.out).mono ?_
  rintro e w4 ⟨rfl, v4, lv4, x4, _, _, f⟩
  have X4 := Lib.hid x4
  have K4 := Lib.hid (X3.out.ld.still HB.out K3.out f)
  clear x4 f X3 K3
  have hx1 : (Wg.St.act ⟨0, [], []⟩ (.app (⟨#[97]⟩ : ByteArray).data.toList)) = ⟨0, [], [[97]]⟩ := rfl
  rw [hx1] at X4
  generalize nowF K ([] ++ Wg.writes ⟨0, [], []⟩ (.app (⟨#[97]⟩ : ByteArray).data.toList)) = KS at X4
  have EX : Hid (Wg.Exact KS ⟨0, [], [[97]]⟩) := Lib.hid X4.out.ex
  clear hx1
  go_upto_region 7 with fail
  go_cut [5, 6] (fun s5 s6 wx => s5 = .int .i64 0 ∧ s6 = .int .i64 2 ∧ Hid (Kept w wx) ∧ Hid (Goes wx base b d KS (Wg.writes ⟨0, [], [[97]]⟩ (.app [98])) ⟨0, [], [[97], [98]]⟩ 1 2))
  case first =>
    obtain ⟨k, hk⟩ : ∃ k : Nat, k = 1025 := ⟨_, rfl⟩
    have f1 : ∀ W : World, (Instr.makeSlice 89 (.int .i64 1025) (.int .i64 1025)).run Tryd.prog W = .ok (.slice (some ⟨W.heap.size, 0, none⟩) k k) (W.alloc (.cells (byteRow (List.replicate k 0)) 5)) := fun W => by
      have := make_bytes k (by omega) W
      rw [show ((k : Nat) : Int) = 1025 by omega] at this
      exact this
    have F2 : Hid (∀ (g : Nat) (W' : World), W'.heap[g]? = some (.cells (byteRow (List.replicate k 0)) 5 (0, 0)) → (convert 89 9 (.slice (some ⟨g, 0, none⟩) k k)).run Tryd.prog W' = .ok (.string ⟨(List.replicate k (0 : UInt8)).toArray⟩) W') := Lib.hid fun g W' hW => by
      have := run_convert_bytes_back (P := Tryd.prog) W' 89 9 5 ⟨g, 0, none⟩ k (List.replicate k (0 : UInt8)) Tryd.underlying89 Tryd.underlying5 Tryd.underlying9 fun j hj => by
        have hadd : (⟨g, 0, none⟩ : Addr).add j = ⟨g, j, none⟩ := by rw [Go.WideShapes.add_plain, Nat.zero_add]
        rw [hadd]
        simp only [World.cell?, hW, Option.isSome_none, Bool.false_eq_true, if_false]
        rw [byteRow_at, List.getElem?_eq_getElem hj]
        rfl
      rwa [List.length_replicate] at this
    obtain ⟨Big, hBig⟩ : ∃ Big : ByteArray, Big = ⟨(List.replicate k (0 : UInt8)).toArray⟩ := ⟨_, rfl⟩
    have hsz : Big.size = 1025 := by rw [hBig, ← hk]; simp [ByteArray.size]
    rw [← hBig] at F2
    generalize byteRow (List.replicate k 0) = BR at f1 F2
    have f2 : ∀ W : World, (convert 89 9 (.slice (some ⟨W.heap.size, 0, none⟩) k k)).run Tryd.prog (W.alloc (.cells BR 5)) = .ok (.string Big) (W.alloc (.cells BR 5)) := fun W => F2.out _ _ (heap_alloc_new W _)
    have f2d : ∀ W : World, (convert 89 9 (.slice (some ⟨W.heap.size, 0, none⟩) k k)).run Tryd.prog (W.alloc (.cells BR 5)).drew = .ok (.string Big) (W.alloc (.cells BR 5)).drew := fun W => F2.out _ _ (heap_alloc_new W _)
    have CA : Hid (∀ w', Kept w4 w' → Calls Tryd.prog 14 #[.pointer (some ⟨b, 0, none⟩), .string ⟨#[98]⟩] w' fun e w'' => e = .returned (.int .i64 0) ∧ Ran w' w'' base b d v4 lv4 KS (Wg.writes ⟨0, [], [[97]]⟩ (.app [98])) ⟨0, [], [[97], [98]]⟩ 1 2) := Lib.hid fun w' q =>
      run_app ⟨#[98]⟩ w' (X4.out.kept q) (by decide) (by decide) (HT.out.kept (K4.out.trans q))
    have CB : Hid (∀ w', Calls Tryd.prog 14 #[.pointer (some ⟨b, 0, none⟩), .string Big] w' fun e w'' => e = .returned (.int .i64 2) ∧ Kept w' w'') := Lib.hid fun w' => logappend_big b Big w' (by omega) (by unfold maxLen; omega)
    have CS : Hid (∀ w' w'', Kept w4 w' → But (LS b d v4 lv4) w' w'' → Kept w w'') := Lib.hid fun w' w'' q f => (X4.out.kept q).ld.still HB.out (K4.out.trans q) f
    clear hBig hsz hk
    have CA1 := Lib.hid (CA.out _ (Kept.refl w4).drew)
    have CA2 := Lib.hid (CA.out _ (((Kept.refl w4).alloc (.cells BR 5)).drew))
    have CS1 : Hid (∀ w'', But (LS b d v4 lv4) w4.drew w'' → Kept w w'') := Lib.hid fun w'' f => CS.out _ w'' (Kept.refl w4).drew f
    have CS2 : Hid (∀ w'', But (LS b d v4 lv4) (w4.alloc (.cells BR 5)).drew w'' → Kept w w'' ∧ (convert 89 9 (.slice (some ⟨w4.heap.size, 0, none⟩) k k)).run Tryd.prog w'' = .ok (.string Big) w'') := Lib.hid fun w'' f => ⟨CS.out _ w'' ((Kept.refl w4).alloc _).drew f,
      F2.out _ w'' (f.at (heap_alloc_new w4 (.cells BR 5)) ((X4.out.kept (((Kept.refl w4).alloc (.cells BR 5)).drew)).ld.not (t := 5) (fz := (0, 0)) (c := BR) (heap_alloc_new w4 (.cells BR 5)) (by decide) (by decide) (by decide) (by decide)))⟩
    have hsl : ∀ x : World, (x.alloc (.cells BR 5)).heap.size = x.heap.size + 1 := fun x => World.size_alloc ..
    clear CA CS F2 hsl
    go_region_law
      (first
        | (refine step_go rfl 14 #[.pointer (some ⟨b, 0, none⟩), .string ⟨#[98]⟩] (by kernel_rfl) ?_; (with_reducible refine CA1.out.mono ?_); rintro e wA ⟨rfl, vA, lvA, xA, tA, uA, fA⟩; have kA := CS1.out _ fA; refine ⟨_, rfl, ?_⟩)
        | (refine step_go rfl 14 #[.pointer (some ⟨b, 0, none⟩), .string ⟨#[98]⟩] (by kernel_rfl) ?_; (with_reducible refine CA2.out.mono ?_); rintro e wA ⟨rfl, vA, lvA, xA, tA, uA, fA⟩; obtain ⟨kA, f2A⟩ := CS2.out _ fA; refine ⟨_, rfl, ?_⟩)
        | (refine step_go rfl 14 #[.pointer (some ⟨b, 0, none⟩), .string Big] (by kernel_rfl) ?_; (with_reducible refine (CB.out _).mono ?_); rintro e wB ⟨rfl, kB⟩; refine ⟨_, rfl, ?_⟩))
    all_goals
      go_wp2_with fail
      go_meet
      case rel => first | exact ⟨rfl, rfl, Lib.hid (kA.trans kB), Lib.hid ⟨_, _, xA.kept kB⟩⟩ | exact ⟨rfl, rfl, Lib.hid ((kA.alloc _).trans kB), Lib.hid ⟨_, _, xA.kept (((Kept.refl _).alloc _).trans kB)⟩⟩
  case rest =>
    obtain ⟨rfl, rfl, K5, x5⟩ := hcut
    obtain ⟨v5, lv5, x5⟩ := x5.out
    have X5 := Lib.hid x5
    clear x5 X4 K4 x1
    generalize hws : Wg.writes ⟨0, [], [[97]]⟩ (.app [98]) = ws at X5
    have HWS := Lib.hid hws
    clear hws
    go_wp2_with fail
    refine (records_any _ X5.out.ld.log).mono ?_
    rintro e w6 ⟨rv, rfl, r6, k6⟩
    have RV : Hid (RApart lv5 rv) := Lib.hid fun i e1 e2 => by
      obtain ⟨_, cur, hg⟩ := X5.out.ld.log.row.blk e1
      have := heap_lt hg
      have := (r6.blk e2).1
      omega
    have X6 := Lib.hid (X5.out.kept k6)
    have K6 := Lib.hid (K5.out.trans k6)
    obtain ⟨ar, cr, rfl⟩ := r6.form
    have R6 : Hid (Tx w6 0 (.slice ar [[97], [98]].length cr) [[97], [98]]) := Lib.hid (Tx.mono r6 (Nat.zero_le _))
    clear r6 k6 X5 K5
    go_wp2_with fail
    refine (sure_any w6 X6.out.ld.log).mono ?_
    rintro e w7 ⟨rfl, k7⟩
    have X7 := Lib.hid (X6.out.kept k7)
    have K7 := Lib.hid (K6.out.trans k7)
    have R7 := Lib.hid (R6.out.kept k7)
    clear k7 X6 K6 R6
    go_wp2_with fail
    refine (copy_disk w7 X7.out.ld.dsk).mono ?_
    rintro e w8 ⟨bo, vo, rfl, o8, k8⟩
    have NE : Hid (bo ≠ d) := Lib.hid (by have := o8.low; have := heap_lt X7.out.ld.dsk.blk; omega)
    have AO : Hid (RApart vo v5) := Lib.hid fun i e1 e2 => by
      obtain ⟨_, cur, hg⟩ := X7.out.ld.dsk.row.blk e2
      have := heap_lt hg
      have := (o8.row.blk e1).1
      omega
    have O8 := Lib.hid (o8.mono (base' := base) (by have := X7.out.ld.dsk.low; have := heap_lt X7.out.ld.dsk.blk; omega))
    have X8 := Lib.hid (X7.out.kept k8)
    have K8 := Lib.hid (K7.out.trans k8)
    have R8 := Lib.hid (R7.out.kept k8)
    clear k8 o8 X7 K7 R7
    go_wp2_with fail
    refine (crash_is (K' := KS) 0 ((min (0 : Int).toNat (Dk.total ws) : Nat) : Int) w8 O8.out (by decide) (by decide) rfl (Dk.after_zero _ _)).mono ?_
    rintro e w9 ⟨rfl, o9, f⟩
    have O9 := Lib.hid o9
    have X9 := Lib.hid (X8.out.to (O8.out.pair f X8.out.ld NE.out.symm AO.out))
    have K9 := Lib.hid (O8.out.still HB.out K8.out f)
    have R9 := Lib.hid (O8.out.tx f R8.out)
    clear o9 f O8 X8 K8 R8 AO
    go_wp2_with fail
    refine (run_open (k := 2) w9 O9.out (by decide) HT.out HB.out K9.out EX.out.stands (by decide) (by decide) (by decide) (by decide) (by decide)).mono ?_
    rintro e w10 ⟨bm, lvm, rfl, m10, hbm, hlm, f⟩
    have NB : Hid (bm ≠ b) := Lib.hid (by have := heap_lt X9.out.ld.log.blk; omega)
    have AM : Hid (RApart lv5 lvm) := Lib.hid fun i e1 e2 => by
      obtain ⟨_, cur, hg⟩ := X9.out.ld.log.row.blk e1
      have := heap_lt hg
      have := hlm i e2
      omega
    have M10 := Lib.hid m10.ld
    have X10 := Lib.hid (X9.out.to (O9.out.pair f X9.out.ld NE.out.symm (rapart_nil _)))
    have K10 := Lib.hid (O9.out.still HB.out K9.out f)
    have R10 := Lib.hid (O9.out.tx f R9.out)
    generalize Wg.opened (nowF KS []) = KM at M10
    clear m10 hbm hlm f O9 X9 K9 R9
    go_wp2_with fail
    refine (run_chk ⟨#[115]⟩ w10 X10.out (by decide) (by decide) HT.out HB.out K10.out).mono ?_
    rintro e w11 ⟨rfl, v11, lv11, x11, t1, t2, f⟩
    have X11 := Lib.hid x11
    have M11 := Lib.hid (X10.out.ld.over f M10.out NB.out NE.out (rapart_nil2 _) AM.out)
    have K11 := Lib.hid (X10.out.ld.still HB.out K10.out f)
    have R11 := Lib.hid (X10.out.ld.tx f R10.out RV.out)
    clear x11 t1 t2 f X10 M10 K10 R10 AM NB RV
    have hx3 : (Wg.St.act ⟨0, [], [[97], [98]]⟩ (.chk (⟨#[115]⟩ : ByteArray).data.toList)) = ⟨1, [115], []⟩ := rfl
    rw [hx3] at X11
    have hal : Hid (ws ++ Wg.writes ⟨0, [], [[97], [98]]⟩ (.chk (⟨#[115]⟩ : ByteArray).data.toList) = Wg.allw ⟨0, [], [[97]]⟩ [.app [98], .chk [115]]) := Lib.hid (by rw [fix_key, ← HWS.out]; rfl)
    rw [hal.out] at X11
    have ST : Hid (Wg.Stands (Dk.after KS (Wg.allw ⟨0, [], [[97]]⟩ [.app [98], .chk [115]]) (Dk.total (Wg.allw ⟨0, [], [[97]]⟩ [.app [98], .chk [115]]) - 1)) ⟨1, [115], []⟩) := Lib.hid (by
      have := Wg.crash_acts [.app [98], .chk [115]] EX.out (by simp [Wg.few]) (by decide) (Dk.total (Wg.allw ⟨0, [], [[97]]⟩ [.app [98], .chk [115]]) - 1)
      rw [fix_last] at this
      exact this)
    generalize Wg.allw ⟨0, [], [[97]]⟩ [.app [98], .chk [115]] = us at X11 ST
    have hsm := X11.out.ld.dsk.small
    clear hx3 hal HWS EX
    go_wp2_with fail
    refine (units_is (Dk.total us : Int) w11 X11.out.ld.dsk rfl).mono ?_
    rintro e w12 ⟨rfl, k12⟩
    have X12 := Lib.hid (X11.out.kept k12)
    have M12 := Lib.hid (M11.out.kept k12)
    have K12 := Lib.hid (K11.out.trans k12)
    have R12 := Lib.hid (R11.out.kept k12)
    clear k12 X11 M11 K11 R11
    have r1 : IntKind.i64.wrap ((Dk.total us : Int) - 1) = (Dk.total us : Int) - 1 := by rw [IntKind.wrap_i64]; omega
    have r2 : ((Dk.total us : Int) - 1).toNat = Dk.total us - 1 := by omega
    go_wp2_with fail
    refine (crash_is (K' := Dk.after KS us (Dk.total us - 1)) ((Dk.total us : Int) - 1) ((min ((Dk.total us : Int) - 1).toNat (Dk.total us) : Nat) : Int) w12 X12.out.ld.dsk (by omega) (by omega) rfl (by rw [r2])).mono ?_
    rintro e w13 ⟨rfl, d13, f⟩
    have D13 := Lib.hid d13
    have M13 := Lib.hid (X12.out.ld.dsk.pair f M12.out NE.out (rapart_nil2 _))
    have K13 := Lib.hid (X12.out.ld.dsk.still HB.out K12.out f)
    have R13 := Lib.hid (X12.out.ld.dsk.tx f R12.out)
    generalize Dk.after KS us (Dk.total us - 1) = KZ at D13 ST
    clear d13 f X12 M12 K12 R12 r1 r2 hsm
    go_wp2_with fail
    refine (run_open (k := 3) w13 D13.out (by decide) HT.out HB.out K13.out ST.out (by decide) (by decide) (by decide) (by decide) (by simp)).mono ?_
    rintro e w14 ⟨bk, lvk, rfl, p14, _, _, f⟩
    have P14 := Lib.hid p14
    have M14 := Lib.hid (D13.out.pair f M13.out NE.out (rapart_nil _))
    have K14 := Lib.hid (D13.out.still HB.out K13.out f)
    have R14 := Lib.hid (D13.out.tx f R13.out)
    generalize Wg.opened (nowF KZ []) = KK at P14
    clear p14 f D13 M13 K13 R13 ST
    go_wp2_with fail
    refine (new_disk _).mono ?_
    rintro e w15 ⟨rfl, x15, k15⟩
    have ND : Hid (d ≠ w14.heap.size ∧ bo ≠ w14.heap.size) := Lib.hid (by have := heap_lt P14.out.ld.dsk.blk; have := heap_lt M14.out.dsk.blk; omega)
    have B15 := Lib.hid x15
    have HB15 : Hid (w.heap.size ≤ w14.heap.size) := Lib.hid K14.out.size
    have P15 := Lib.hid (P14.out.kept k15)
    have M15 := Lib.hid (M14.out.kept k15)
    have K15 := Lib.hid (K14.out.trans k15)
    have R15 := Lib.hid (R14.out.kept k15)
    clear x15 k15 P14 M14 K14 R14
    generalize w14.heap.size = bd at ND B15 HB15 ⊢
    go_wp2_with fail
    refine (replace_is 0 ⟨#[120]⟩ 0 [⟨0, ⟨#[120]⟩, true⟩] w15 B15.out (by decide) (by decide) (by decide) rfl).mono ?_
    rintro e w16 ⟨rfl, vb, b16, _, f⟩
    have B16 := Lib.hid b16
    have P16 := Lib.hid (P15.out.to (B15.out.pair f P15.out.ld ND.out.1 (rapart_nil _)))
    have M16 := Lib.hid (B15.out.pair f M15.out ND.out.2 (rapart_nil _))
    have K16 := Lib.hid (B15.out.still HB15.out K15.out f)
    have R16 := Lib.hid (B15.out.tx f R15.out)
    clear b16 f B15 P15 M15 K15 R15 ND
    have h3 : (Wg.head (nowF (fun _ => ⟨#[]⟩) [⟨0, ⟨#[120]⟩, true⟩] 0).data.toList).2.2 = 3 := by decide +kernel
    go_wp2_with fail
    refine (logopen_bad w16 B16.out HT.out K16.out (by rw [h3]; decide)).mono ?_
    rintro e w17 ⟨rfl, k17⟩
    rw [h3]
    have P17 := Lib.hid (P16.out.kept k17)
    have M17 := Lib.hid (M16.out.kept k17)
    have K17 := Lib.hid (K16.out.trans k17)
    have R17 := Lib.hid (R16.out.kept k17)
    clear k17 B16 P16 M16 K16 R16 h3
    go_wp2_with fail
    refine (same_any _ _ [[97], [98]] [[97], [98]] _ ((R17.out.kept ((Kept.refl w17).alloc _)).strs) (strs_new w17 [[97], [98]] 9 (by decide))).mono ?_
    rintro e w18 ⟨rfl, k18⟩
    rw [show (([[97], [98]] : List (List UInt8)) == [[97], [98]]) = true from rfl]
    have q18 := ((Kept.refl w17).alloc (.cells #[.string ⟨#[97]⟩, .string ⟨#[98]⟩] 9)).trans k18
    have P18 := Lib.hid (P17.out.kept q18)
    have M18 := Lib.hid (M17.out.kept q18)
    have K18 := Lib.hid (K17.out.trans q18)
    clear k18 q18 P17 M17 K17 R17
    go_wp2_with fail
    refine (records_any w18 M18.out.log).mono ?_
    rintro e w19 ⟨mv, rfl, m19, k19⟩
    have P19 := Lib.hid (P18.out.kept k19)
    have K19 := Lib.hid (K18.out.trans k19)
    obtain ⟨am, cm, rfl⟩ := m19.form
    have M19 := Lib.hid m19
    clear k19 m19 P18 M18 K18
    go_wp2_with fail
    refine (same_any _ _ [[97]] [[97]] _ ((M19.out.kept ((Kept.refl w19).alloc _)).strs) (strs_new w19 [[97]] 9 (by decide))).mono ?_
    rintro e w20 ⟨rfl, k20⟩
    rw [show (([[97]] : List (List UInt8)) == [[97]]) = true from rfl]
    have q20 := ((Kept.refl w19).alloc (.cells #[.string ⟨#[97]⟩] 9)).trans k20
    have P20 := Lib.hid (P19.out.kept q20)
    have K20 := Lib.hid (K19.out.trans q20)
    clear k20 q20 P19 M19 K19
    go_wp2_with fail
    refine (state_any w20 P20.out.ld.log).mono ?_
    rintro e w21 ⟨rfl, k21⟩
    rw [show str [115] = .string ⟨#[115]⟩ from rfl]
    have P21 := Lib.hid (P20.out.kept k21)
    have K21 := Lib.hid (K20.out.trans k21)
    clear k21 P20 K20
    go_wp2_with fail
    refine (records_any w21 P21.out.ld.log).mono ?_
    rintro e w22 ⟨pv, rfl, p22, k22⟩
    have P22 := Lib.hid (P21.out.kept k22)
    have K22 := Lib.hid (K21.out.trans k22)
    obtain ⟨ap, cp, rfl⟩ := p22.form
    clear k22 p22 P21 K21
    go_wp2_with fail
    refine (round_any w22 P22.out.ld.log).mono ?_
    rintro e w23 ⟨rfl, k23⟩
    have P23 := Lib.hid (P22.out.kept k23)
    have K23 := Lib.hid (K22.out.trans k23)
    clear k23 P22 K22
    go_wp2_with fail
    refine (sure_any w23 P23.out.ld.log).mono ?_
    rintro e w24 ⟨rfl, k24⟩
    have P24 := Lib.hid (P23.out.kept k24)
    have K24 := Lib.hid (K23.out.trans k24)
    clear k24 P23 K23
    go_wp2_with fail
    refine (read_is 1 ⟨#[]⟩ w24 P24.out.ld.dsk (by
      rw [if_pos (by decide)]
      exact P24.out.ex.rows)).mono ?_
    rintro e w25 ⟨rfl, k25⟩
    have K25 := Lib.hid (K24.out.trans k25)
    clear k25 P24 K24
    go_wp2
    go_ret
    exact ⟨rfl, K25.out⟩
theorem str_eq_self (s : ByteArray) : (s.toList == s.toList) = true := by simp
theorem str_ne_self (s : ByteArray) : (s.toList != s.toList) = false := by simp
/-- rows of writes and rows of texts are never the same block -/
theorem Dsk.apart {w : World} {base d : Nat} {K : Dk.Fl} {v : Value} {ws : List Dk.W} (o : Dsk w base d K v ws) {base' : Nat} {r : Value} {l : List (List UInt8)} (h : Tx w base' r l) : RApart v r := fun i e1 e2 => by
  obtain ⟨_, cur, hg⟩ := o.row.blk e1
  obtain ⟨_, cur2, hg2⟩ := h.blk e2
  exact type_ne hg hg2 (by decide)
theorem dec_ne (n : Nat) : (((n : Nat) : Int) != n) = false := by simp
end Go.Proofs.YtenhncohhikllaaDoor
