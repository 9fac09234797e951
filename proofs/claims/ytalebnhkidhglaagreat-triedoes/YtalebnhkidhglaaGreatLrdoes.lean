/-
  The walk of the law TrieDoes.
-/
import Derived.Test.YtalebnhkidhglaaGreatRdoc8
import Derived.Test.YtalebnhkidhglaaGreatRregw
namespace Go.Proofs.YtalebnhkidhglaaGreat
open Go.ChangeShapes Go.WideShapes Go.ChangeAt Go.RowKit Go.Maps

/-- what stands at the head of a round -/
structure Head (w wr : World) (k n t r : Nat) (N : Path → Option Loc) (A : Path → Int → Nat) (rs : List AskV) (v : Value) (os : List OpV) : Prop where
  tr : Tr w wr n t N A
  n9 : n ≤ 9 * k
  doc : DTr w wr r rs
  fine : DFine k rs
  says : Doc A rs
  script : OwnO wr w.heap.size v os
  kept : Kept w wr
theorem Head.on {w wr w' : World} {k n t r : Nat} {N : Path → Option Loc} {A : Path → Int → Nat} {rs : List AskV} {v : Value} {os : List OpV} (h : Head w wr k n t r N A rs v os) (kk : Kept wr w') : Head w w' k n t r N A rs v os :=
  ⟨h.tr.kept kk, h.n9, h.doc.kept kk, h.fine, h.says, h.script.kept kk, h.kept.trans kk⟩

/-- a row of the call's own, whatever it holds -/
def Row (w : World) (b : Nat) (e : TypeId) (v : Value) (n : Nat) : Prop := ∃ xs, w.ownsRow b e 1 v n xs
theorem Row.at {w : World} {b : Nat} {e : TypeId} {a : Option Addr} {n cap : Nat} (h : Row w b e (.slice a n cap) n) {j : Nat} (hj : j < n) :
    ∃ g u, a = some ⟨g, 0, none⟩ ∧ n ≤ cap ∧ cap ≤ maxLen ∧ b ≤ g ∧ w.cell? ⟨g, j, none⟩ = some u ∧ w.frozen? ⟨g, j, none⟩ = false := by
  obtain ⟨xs, h⟩ := h
  have h0 := h
  rcases h.2 with ⟨_, h0⟩ | ⟨g, cap', cur, e1, hb, hg, h1, h2, h3, h4⟩
  · omega
  · cases e1
    have hl : j < xs.length := by rw [h.1]; omega
    refine ⟨g, xs[j], rfl, h1, h2, hb, ?_, World.ownsRow.frozenAt h0 j⟩
    rw [World.ownsRow.cellAt h0 j (by omega), List.getElem?_eq_getElem hl]
theorem Row.set {w : World} {b : Nat} {e : TypeId} {g n cap : Nat} (h : Row w b e (.slice (some ⟨g, 0, none⟩) n cap) n) (j : Nat) (u : Value) : Row (w.setCell ⟨g, j, none⟩ u) b e (.slice (some ⟨g, 0, none⟩) n cap) n := by
  obtain ⟨xs, h⟩ := h
  exact ⟨_, (World.ownsRow.stored h j u).1⟩
theorem Row.other {w : World} {b b' : Nat} {e e' : TypeId} {g n cap n' : Nat} {v : Value} (h : Row w b e (.slice (some ⟨g, 0, none⟩) n cap) n) (h' : Row w b' e' v n') (ne : e ≠ e') (j : Nat) (u : Value) : Row (w.setCell ⟨g, j, none⟩ u) b' e' v n' := by
  obtain ⟨xs, h⟩ := h
  obtain ⟨ys, h'⟩ := h'
  refine ⟨ys, row_but h' (but_set w g j u) ?_⟩
  intro i hi hu
  subst hu
  rcases h.2 with ⟨e0, _⟩ | ⟨g1, c1, cur1, e1, _, hg1, _⟩
  · cases e0
  · cases e1
    rcases h'.2 with ⟨e0, _⟩ | ⟨g2, c2, cur2, e2, _, hg2, _⟩
    · subst e0; cases hi
    · subst e2
      cases hi
      rw [hg1] at hg2
      injection hg2 with hg2
      injection hg2 with _ hg3
      exact ne hg3
theorem Row.keeps {w4 w : World} {b : Nat} {e : TypeId} {g n cap : Nat} (h : Row w b e (.slice (some ⟨g, 0, none⟩) n cap) n) (K : Kept w4 w) (hb : w4.heap.size ≤ b) (j : Nat) (u : Value) : Kept w4 (w.setCell ⟨g, j, none⟩ u) := by
  obtain ⟨xs, h⟩ := h
  refine K.grown' (World.ownsRow.stored h j u).2 ?_
  rintro k' ek
  cases ek
  rcases h.2 with ⟨e0, _⟩ | ⟨g1, c1, cur1, e1, hb1, _⟩
  · cases e0
  · cases e1; omega

set_option maxHeartbeats 4000000 in
set_option maxRecDepth 100000 in
theorem rdoes_walk (av : Option Addr) (len cap : Nat) (z : Nat → OpV) (w : World) (hz : OpArg w av len cap z) :
    Calls Tryz.prog 3 #[.slice av len cap] w fun e w' => e = .returned (.bool true) ∧ Kept w w' := by
  have cc := cut_law av len cap z w hz
  clear hz
  go_enter Tryz.func3, Tryz.ntmps3
  go_wp2_with fail
  refine cc.mono ?_
  rintro e w1 ⟨a1, c1, os, rfl, o1, hos, hsm, k1⟩
  have O1 := Lib.hid o1
  have HS := Lib.hid hsm
  clear cc o1 hsm
  go_wp2_with fail
  refine (new_from k1).mono ?_
  rintro e w2 ⟨t, N2, rfl, T2, k2, kk2, _⟩
  have kb : Kept w2 (w2.alloc (.cells #[.slice none 0 0] 29)) := Kept.alloc (Kept.refl w2) _
  have H0 : Hid (Head w (w2.alloc (.cells #[.slice none 0 0] 29)) 0 0 t w2.heap.size N2 (fun _ _ => 0) [] (.slice a1 os.length c1) os) :=
    ⟨T2.kept kb, Nat.le_refl _, ⟨k2.size, none, 0, new_heap w2 _, World.ownsRow_nil _ _ _ _⟩, ⟨Nat.le_refl _, fun a ha => by simp at ha⟩, Doc.nil, (O1.out.kept kk2).kept kb, k2.trans kb⟩
  obtain ⟨r, hr⟩ : ∃ r, w2.heap.size = r := ⟨_, rfl⟩
  rw [hr] at H0
  clear T2 kk2 O1 k1 k2 kb
  go_wp2
  go_loopw [4, 6] (fun tv iv wr => ∃ (k n t : Nat) (N : Path → Option Loc) (A : Path → Int → Nat) (rs : List AskV), k ≤ os.length ∧ tv = .pointer (some ⟨t, 0, none⟩) ∧ iv = .int .i64 k ∧ Head w wr k n t r N A rs (.slice a1 os.length c1) os) (fun _ iv _ => os.length - (intOf iv).toNat)
  case atStart => exact ⟨0, 0, t, N2, _, [], Nat.zero_le _, rfl, rfl, H0.out⟩
  case round =>
    clear H0
    obtain ⟨k, n, t, N, A, rs, hk, rfl, rfl, hh⟩ := hrel
    have HH := Lib.hid hh
    have hn9 := hh.n9
    clear hh
    by_cases hlt : k < os.length
    · obtain ⟨g, rfl, hcm, hcl, d0, d1, d2, d3⟩ := HH.out.script.at hlt
      have hso := HS.out os[k] (List.getElem_mem hlt)
      unfold maxLen at hcm
      obtain ⟨o, ho⟩ : ∃ o, os[k] = o := ⟨_, rfl⟩
      rw [ho] at d0 d1 d2 d3 hso
      have HSO := Lib.hid hso
      have hos_k := ho
      clear ho hso
      have HOK := Lib.hid hos_k
      clear hos_k
      by_cases hk3 : o.kind = 3
      · have ek : (o.kind == 3) = true := by simpa using hk3
        go_wp2_with fail
        refine (copy_from HH.out.kept HH.out.tr (by omega)).mono ?_
        rintro e wc ⟨tc, Nc, rfl, Cc, kc, kkc, apc⟩
        clear ek hk3
        have HC := Lib.hid Cc
        have HTo := Lib.hid (HH.out.tr.kept kkc)
        have HDc := Lib.hid (HH.out.doc.kept kkc)
        have HOc := Lib.hid (HH.out.script.kept kkc)
        have HP := Lib.hid apc
        have HFi := Lib.hid HH.out.fine
        have HSa := Lib.hid HH.out.says
        clear Cc kkc apc d0 d1 d2 d3 HH
        go_wp2_with fail
        refine (add_from kc HTo.out (by omega) ⟨#[120, 47, 121]⟩ (by decide) 99 (by decide)).mono ?_
        rintro e wd ⟨rfl, Md, Td, kd, Vd⟩
        have HTd := Lib.hid Td
        have HCd : Hid (Tr w wd n tc Nc A) := ⟨HC.out.tri.other HTo.out.tri HP.out Vd, HC.out.own⟩
        have HDd := Lib.hid (HDc.out.moves HTo.out.tri.trie Vd)
        have HOd := Lib.hid (HOc.out.moves HTo.out.tri.trie Vd)
        have HPd := Lib.hid (HP.out.moves Vd HC.out.tri.trie)
        obtain ⟨gd, egd, _, _, f0, f1, f2, f3⟩ := HOd.out.at hlt
        injection egd with egd; injection egd with egd; subst egd
        rw [HOK.out] at f0 f1 f2 f3
        clear Td Vd HC HTo HDc HOc HP kc
        go_wp2_with fail
        refine (leave_from kd HTd.out (by omega) o.id HSO.out.2.2.1).mono ?_
        rintro e wx ⟨Lx, rfl, _, _, Mx, Tx, kx, Vx⟩
        have HX : Hid (Head w wx k n tc r Nc A rs (.slice (some ⟨g, 0, none⟩) os.length c1) os) := ⟨⟨HCd.out.tri.other HTd.out.tri HPd.out Vx, HCd.out.own⟩, hn9, HDd.out.moves HTd.out.tri.trie Vx, HFi.out, HSa.out, HOd.out.moves HTd.out.tri.trie Vx, kx⟩
        clear Tx Vx HTd HCd HDd HOd HPd HFi HSa kd kx f0 f1 f2 f3
        obtain ⟨gx, egx, _, _, e0, e1, e2, e3⟩ := HX.out.script.at hlt
        injection egx with egx; injection egx with egx; subst egx
        rw [HOK.out] at e0 e1 e2 e3
        go_wp2_with fail
        refine (play_from HX.out.kept HX.out.tr (by omega) o (by have := HSO.out.1; omega) HSO.out.2.2.1).mono ?_
        rintro e w3 ⟨x3, y3, rfl, pv3, N3, T3, k3, M3⟩
        have HT3 := Lib.hid T3
        have HD3 := Lib.hid (HX.out.doc.moves HX.out.tr.tri.trie M3)
        have HO3 := Lib.hid (HX.out.script.moves HX.out.tr.tri.trie M3)
        have PV3 := Lib.hid pv3
        obtain ⟨g3, eg3, _, _, f0, f1, f2, f3⟩ := HO3.out.at hlt
        injection eg3 with eg3; injection eg3 with eg3; subst eg3
        rw [HOK.out] at f0 f1 f2 f3
        clear T3 M3 pv3 e0 e1 e2 e3
        go_wp2_with fail
        refine (same_from k3 r k rs HD3.out (by omega) HX.out.fine A HX.out.says o HSO.out.1 x3 y3 PV3.out).mono ?_
        rintro e w4 ⟨rfl, rs4, D4, F4, S4, k4, B4⟩
        have H4 : Hid (Head w w4 (k + 1) (n + 9) tc r N3 (playA A o) rs4 (.slice (some ⟨g, 0, none⟩) os.length c1) os) :=
          ⟨B4.tr HT3.out, by omega, D4, F4, S4, B4.opsrow HO3.out, k4⟩
        obtain ⟨g4, eg4, _, _, p0, p1, p2, p3⟩ := H4.out.script.at hlt
        injection eg4 with eg4; injection eg4 with eg4; subst eg4
        rw [HOK.out] at p0 p1 p2 p3
        clear D4 F4 S4 k4 B4 HX HT3 HD3 HO3 PV3 k3 f0 f1 f2 f3
        obtain ⟨A4, hA4⟩ : ∃ A4, playA A o = A4 := ⟨_, rfl⟩
        rw [hA4] at H4
        clear hA4
        have hF := HSO.out.1
        have hT := HSO.out.2.1
        obtain ⟨oK, oF, oI, oT⟩ := o
        simp only at p0 p1 p2 p3 hF hT
        go_wp2_with fail
        refine (match_law2 H4.out.kept H4.out.tr (by omega) oT (by omega)).mono ?_
        rintro e w5 ⟨am, cm, ms, rfl, om, hw5, k5, kk5, hml⟩
        have HW5 := Lib.hid hw5
        have OM := Lib.hid om
        clear hw5 om k5
        go_wp2_with fail
        refine (all_law (H4.out.kept.trans kk5) (H4.out.tr.kept kk5) (by omega)).mono ?_
        rintro e w6 ⟨aa, ca, fs, rfl, oa, hf6, k6, kk6⟩
        have HF6 := Lib.hid hf6
        have OA := Lib.hid oa
        have kk46 := kk5.trans kk6
        clear hf6 oa k6
        have hwf := HSO.out.2.2.1
        simp only at hwf
        have HWF := Lib.hid hwf
        have kkd : Kept w4 w6.drew := kk46.drew
        have s0 : w6.drew.cell? ⟨g, k * 4 + 1, none⟩ = some (.string oF) ∧ w6.drew.cell? ⟨g, k * 4 + 2, none⟩ = some (.int .i64 oI) ∧ w6.drew.cell? ⟨g, k * 4 + 3, none⟩ = some (.string oT) := ⟨kept_cell kkd p1, kept_cell kkd p2, kept_cell kkd p3⟩
        clear hwf p0 p1 p2 p3
        have ex : (x3 != x3) = false := by simp
        have ey : (y3 != y3) = false := by simp
        obtain ⟨cn, hcn⟩ : ∃ cn, A4 (Tp.lev oF.data.toList) oI = cn := ⟨_, rfl⟩
        have HCN := Lib.hid hcn
        clear hcn
        have ec : ((cn : Int) != (cn : Int)) = false := by simp
        go_wp2
        simp only [List.append_eq, List.cons_append, List.nil_append]
        refine reg18 (g := g) (k := k) (len := os.length) (c1 := c1) (t := tc) (r := r) (x := x3) (y := y3) (vm := .slice am ms.length cm) (va := .slice aa fs.length ca) (oF := oF) (oT := oT) (oI := oI) (cn := cn) rfl (fun _ _ _ _ _ h => h) rfl rfl rfl rfl rfl rfl rfl rfl rfl rfl rfl hlt s0 ?_
        refine (rmatchd_any w6.drew w.heap.size r (k + 1) rs4 (H4.out.doc.kept kkd).at_ (by omega) H4.out.fine A4 H4.out.says oT (by omega)).mono ?_
        rintro e w7 ⟨v7, ms7, rfl, o7, h7, k7⟩
        have s7 : Cells g k oF oI oT w7 := ⟨kept_cell k7 s0.1, kept_cell k7 s0.2.1, kept_cell k7 s0.2.2⟩
        have E7 := HW5.out.uniq h7
        have K7 := kkd.trans k7
        have KM7 := (kk6.drew).trans k7
        refine ⟨_, rfl, s7, ?_⟩
        refine (ints_law (Kept.refl w7) (OM.out.kept KM7).nums o7.1.nums E7).mono ?_
        rintro e w8 ⟨rfl, _, k8⟩
        have s8 : Cells g k oF oI oT w8 := ⟨kept_cell k8 s7.1, kept_cell k8 s7.2.1, kept_cell k8 s7.2.2⟩
        have K8 := K7.trans k8
        have KA8 := ((Kept.drew (Kept.refl w6)).trans k7).trans k8
        refine ⟨rfl, s8, ?_⟩
        refine (ralld_any w8 w.heap.size r (k + 1) rs4 (H4.out.doc.kept K8).at_ (by omega) H4.out.fine A4 H4.out.says).mono ?_
        rintro e w9 ⟨v9, fs9, rfl, o9, h9, k9⟩
        have s9 : Cells g k oF oI oT w9 := ⟨kept_cell k9 s8.1, kept_cell k9 s8.2.1, kept_cell k9 s8.2.2⟩
        have K9 := K8.trans k9
        have KA9 := KA8.trans k9
        refine ⟨_, rfl, s9, ?_⟩
        refine (same_law (Kept.refl w9) (OA.out.kept KA9).strs o9.1.strs (HF6.out.uniq h9)).mono ?_
        rintro e w10 ⟨rfl, _, k10⟩
        have s10 : Cells g k oF oI oT w10 := ⟨kept_cell k10 s9.1, kept_cell k10 s9.2.1, kept_cell k10 s9.2.2⟩
        have K10 := K9.trans k10
        refine ⟨rfl, s10, ?_⟩
        refine (of_law (H4.out.kept.trans K10) (H4.out.tr.kept K10) (by omega) oI HWF.out).mono ?_
        rintro e w11 ⟨a11, c11, fs11, rfl, o11, h11, _, k11⟩
        have s11 : Cells g k oF oI oT w11 := ⟨kept_cell k11 s10.1, kept_cell k11 s10.2.1, kept_cell k11 s10.2.2⟩
        have K11 := K10.trans k11
        refine ⟨_, rfl, s11, ?_⟩
        refine (rofd_any w11 w.heap.size r (k + 1) rs4 (H4.out.doc.kept K11).at_ (by omega) H4.out.fine A4 H4.out.says oI).mono ?_
        rintro e w12 ⟨v12, fs12, rfl, o12, h12, k12⟩
        have s12 : Cells g k oF oI oT w12 := ⟨kept_cell k12 s11.1, kept_cell k12 s11.2.1, kept_cell k12 s11.2.2⟩
        have K12 := K11.trans k12
        refine ⟨_, rfl, s12, ?_⟩
        refine (same_law (Kept.refl w12) (o11.kept k12).strs o12.1.strs (h11.uniq h12)).mono ?_
        rintro e w13 ⟨rfl, _, k13⟩
        have s13 : Cells g k oF oI oT w13 := ⟨kept_cell k13 s12.1, kept_cell k13 s12.2.1, kept_cell k13 s12.2.2⟩
        have K13 := K12.trans k13
        refine ⟨rfl, s13, ?_⟩
        refine (has_from (H4.out.kept.trans K13) (H4.out.tr.kept K13) oF (by omega) oI HWF.out cn HCN.out).mono ?_
        rintro e w14 ⟨rfl, _, k14⟩
        have s14 : Cells g k oF oI oT w14 := ⟨kept_cell k14 s13.1, kept_cell k14 s13.2.1, kept_cell k14 s13.2.2⟩
        have K14 := K13.trans k14
        refine ⟨rfl, s14, ?_⟩
        refine (rhas_any w14 w.heap.size r rs4 (H4.out.doc.kept K14).at_ A4 H4.out.says oF oI).mono ?_
        rintro e w15 ⟨rfl, k15⟩
        rw [HCN.out]
        have s15 : Cells g k oF oI oT w15 := ⟨kept_cell k15 s14.1, kept_cell k15 s14.2.1, kept_cell k15 s14.2.2⟩
        have K15 := K14.trans k15
        have KM15 : Kept w6 w15 := (((((((KA9.trans k10).trans k11).trans k12).trans k13).trans k14).trans k15))
        refine ⟨rfl, s15, ?_⟩
        have OM15 := Lib.hid ((OM.out.kept kk6).kept KM15)
        have OA15 := Lib.hid (OA.out.kept KM15)
        have H15 : Hid (Head w w15 (k + 1) (n + 9) tc r N3 A4 rs4 (.slice (some ⟨g, 0, none⟩) os.length c1) os) := ⟨(H4.out.on K15).tr, (H4.out.on K15).n9, (H4.out.on K15).doc, (H4.out.on K15).fine, (H4.out.on K15).says, (H4.out.on K15).script, (H4.out.on K15).kept⟩
        have L4 : w4.heap.size ≤ w5.heap.size := kk5.size
        have L15 : w4.heap.size ≤ w15.heap.size := K15.size
        clear s0 s7 s8 s9 s10 s11 s12 s13 s14 s15 o7 h7 o9 h9 o11 h11 o12 h12 k7 k8 k9 k10 k11 k12 k13 k14 k15 K7 K8 K9 K10 K11 K12 K13 K14 KM7 KA8 KA9 KM15 E7 HW5 HF6 OM OA HWF HCN ex ey ec kkd kk46 kk5 kk6
        intro a' ha'
        unfold chain18 at ha'
        simp only [Act.put, List.setIfInBounds_toArray, List.set_cons_zero, List.set_cons_succ] at ha'
        subst ha'
        go_wp2
        obtain ⟨wo, hwo⟩ : ∃ wo, wo = wr := ⟨_, rfl⟩
        subst hwo
        have RM := Lib.hid (⟨_, OM15.out⟩ : Row w15 w4.heap.size 3 (.slice am ms.length cm) ms.length)
        have RA := Lib.hid (⟨_, OA15.out⟩ : Row w15 w5.heap.size 9 (.slice aa fs.length ca) fs.length)
        go_loopw [14] (fun iv wr => ∃ j : Nat, j ≤ ms.length ∧ iv = .int .i64 j ∧ Kept w4 wr ∧ Row wr w4.heap.size 3 (.slice am ms.length cm) ms.length ∧ Row wr w5.heap.size 9 (.slice aa fs.length ca) fs.length) (fun iv _ => ms.length - (intOf iv).toNat)
        case atStart => exact ⟨0, Nat.zero_le _, rfl, K15, RM.out, RA.out⟩
        case round =>
          clear RM RA K15 OM15 OA15
          obtain ⟨j, hj, rfl, K16, rm16, ra16⟩ := hrel
          have RM16 := Lib.hid rm16
          have RA16 := Lib.hid ra16
          have HK16 := Lib.hid K16
          clear rm16 ra16 K16
          by_cases hjl : j < ms.length
          · obtain ⟨gm, um, rfl, hm1, hm2, hm3, cm0, fm0⟩ := RM16.out.at hjl
            unfold maxLen at hm2
            have R1 := Lib.hid (RM16.out.set j (.int .i64 77))
            have R2 := Lib.hid (RM16.out.other RA16.out (by decide) j (.int .i64 77))
            have R3 := Lib.hid (RM16.out.keeps HK16.out (Nat.le_refl _) j (.int .i64 77))
            go_wp2
            go_roundw
            case rel => exact ⟨j + 1, by omega, by go_num, R3.out, R1.out, R2.out⟩
            case measure => simp [intOf]; omega
          · go_wp2
            obtain ⟨wo2, hwo2⟩ : ∃ wo2, wo2 = wr := ⟨_, rfl⟩
            subst hwo2
            go_loopw [15] (fun iv wr => ∃ j : Nat, j ≤ fs.length ∧ iv = .int .i64 j ∧ Kept w4 wr ∧ Row wr w5.heap.size 9 (.slice aa fs.length ca) fs.length) (fun iv _ => fs.length - (intOf iv).toNat)
            case atStart => exact ⟨0, Nat.zero_le _, rfl, HK16.out, RA16.out⟩
            case round =>
              clear RM16 RA16 HK16
              obtain ⟨j2, hj2, rfl, K17, ra17⟩ := hrel
              have RA17 := Lib.hid ra17
              have HK17 := Lib.hid K17
              clear ra17 K17
              by_cases hjl2 : j2 < fs.length
              · obtain ⟨gm, um, rfl, hm1, hm2, hm3, cm0, fm0⟩ := RA17.out.at hjl2
                unfold maxLen at hm2
                have R1 := Lib.hid (RA17.out.set j2 (.string ⟨#[115, 112, 111, 105, 108, 116]⟩))
                have R3 := Lib.hid (RA17.out.keeps HK17.out L4 j2 (.string ⟨#[115, 112, 111, 105, 108, 116]⟩))
                go_wp2
                go_roundw
                case rel => exact ⟨j2 + 1, by omega, by go_num, R3.out, R1.out⟩
                case measure => simp [intOf]; omega
              · go_wp2
                go_roundw
                case rel => exact ⟨k + 1, n + 9, tc, N3, A4, rs4, by omega, rfl, by go_num, (H4.out.on HK17.out)⟩
                case measure => simp [intOf]; omega
      · have ek : (o.kind == 3) = false := by simpa using hk3
        have HX := HH
        have e0 := d0
        have e1 := d1
        have e2 := d2
        have e3 := d3
        clear d0 d1 d2 d3 HH
        go_wp2_with fail
        refine (play_from HX.out.kept HX.out.tr (by omega) o (by have := HSO.out.1; omega) HSO.out.2.2.1).mono ?_
        rintro e w3 ⟨x3, y3, rfl, pv3, N3, T3, k3, M3⟩
        have HT3 := Lib.hid T3
        have HD3 := Lib.hid (HX.out.doc.moves HX.out.tr.tri.trie M3)
        have HO3 := Lib.hid (HX.out.script.moves HX.out.tr.tri.trie M3)
        have PV3 := Lib.hid pv3
        obtain ⟨g3, eg3, _, _, f0, f1, f2, f3⟩ := HO3.out.at hlt
        injection eg3 with eg3; injection eg3 with eg3; subst eg3
        rw [HOK.out] at f0 f1 f2 f3
        clear T3 M3 pv3 e0 e1 e2 e3
        go_wp2_with fail
        refine (same_from k3 r k rs HD3.out (by omega) HX.out.fine A HX.out.says o HSO.out.1 x3 y3 PV3.out).mono ?_
        rintro e w4 ⟨rfl, rs4, D4, F4, S4, k4, B4⟩
        have H4 : Hid (Head w w4 (k + 1) (n + 9) t r N3 (playA A o) rs4 (.slice (some ⟨g, 0, none⟩) os.length c1) os) :=
          ⟨B4.tr HT3.out, by omega, D4, F4, S4, B4.opsrow HO3.out, k4⟩
        obtain ⟨g4, eg4, _, _, p0, p1, p2, p3⟩ := H4.out.script.at hlt
        injection eg4 with eg4; injection eg4 with eg4; subst eg4
        rw [HOK.out] at p0 p1 p2 p3
        clear D4 F4 S4 k4 B4 HX HT3 HD3 HO3 PV3 k3 f0 f1 f2 f3
        obtain ⟨A4, hA4⟩ : ∃ A4, playA A o = A4 := ⟨_, rfl⟩
        rw [hA4] at H4
        clear hA4
        have hF := HSO.out.1
        have hT := HSO.out.2.1
        obtain ⟨oK, oF, oI, oT⟩ := o
        simp only at p0 p1 p2 p3 hF hT
        go_wp2_with fail
        refine (match_law2 H4.out.kept H4.out.tr (by omega) oT (by omega)).mono ?_
        rintro e w5 ⟨am, cm, ms, rfl, om, hw5, k5, kk5, hml⟩
        have HW5 := Lib.hid hw5
        have OM := Lib.hid om
        clear hw5 om k5
        go_wp2_with fail
        refine (all_law (H4.out.kept.trans kk5) (H4.out.tr.kept kk5) (by omega)).mono ?_
        rintro e w6 ⟨aa, ca, fs, rfl, oa, hf6, k6, kk6⟩
        have HF6 := Lib.hid hf6
        have OA := Lib.hid oa
        have kk46 := kk5.trans kk6
        clear hf6 oa k6
        have hwf := HSO.out.2.2.1
        simp only at hwf
        have HWF := Lib.hid hwf
        have kkd : Kept w4 w6.drew := kk46.drew
        have s0 : w6.drew.cell? ⟨g, k * 4 + 1, none⟩ = some (.string oF) ∧ w6.drew.cell? ⟨g, k * 4 + 2, none⟩ = some (.int .i64 oI) ∧ w6.drew.cell? ⟨g, k * 4 + 3, none⟩ = some (.string oT) := ⟨kept_cell kkd p1, kept_cell kkd p2, kept_cell kkd p3⟩
        clear hwf p0 p1 p2 p3
        have ex : (x3 != x3) = false := by simp
        have ey : (y3 != y3) = false := by simp
        obtain ⟨cn, hcn⟩ : ∃ cn, A4 (Tp.lev oF.data.toList) oI = cn := ⟨_, rfl⟩
        have HCN := Lib.hid hcn
        clear hcn
        have ec : ((cn : Int) != (cn : Int)) = false := by simp
        go_wp2
        simp only [List.append_eq, List.cons_append, List.nil_append]
        refine reg18 (g := g) (k := k) (len := os.length) (c1 := c1) (t := t) (r := r) (x := x3) (y := y3) (vm := .slice am ms.length cm) (va := .slice aa fs.length ca) (oF := oF) (oT := oT) (oI := oI) (cn := cn) rfl (fun _ _ _ _ _ h => h) rfl rfl rfl rfl rfl rfl rfl rfl rfl rfl rfl hlt s0 ?_
        refine (rmatchd_any w6.drew w.heap.size r (k + 1) rs4 (H4.out.doc.kept kkd).at_ (by omega) H4.out.fine A4 H4.out.says oT (by omega)).mono ?_
        rintro e w7 ⟨v7, ms7, rfl, o7, h7, k7⟩
        have s7 : Cells g k oF oI oT w7 := ⟨kept_cell k7 s0.1, kept_cell k7 s0.2.1, kept_cell k7 s0.2.2⟩
        have E7 := HW5.out.uniq h7
        have K7 := kkd.trans k7
        have KM7 := (kk6.drew).trans k7
        refine ⟨_, rfl, s7, ?_⟩
        refine (ints_law (Kept.refl w7) (OM.out.kept KM7).nums o7.1.nums E7).mono ?_
        rintro e w8 ⟨rfl, _, k8⟩
        have s8 : Cells g k oF oI oT w8 := ⟨kept_cell k8 s7.1, kept_cell k8 s7.2.1, kept_cell k8 s7.2.2⟩
        have K8 := K7.trans k8
        have KA8 := ((Kept.drew (Kept.refl w6)).trans k7).trans k8
        refine ⟨rfl, s8, ?_⟩
        refine (ralld_any w8 w.heap.size r (k + 1) rs4 (H4.out.doc.kept K8).at_ (by omega) H4.out.fine A4 H4.out.says).mono ?_
        rintro e w9 ⟨v9, fs9, rfl, o9, h9, k9⟩
        have s9 : Cells g k oF oI oT w9 := ⟨kept_cell k9 s8.1, kept_cell k9 s8.2.1, kept_cell k9 s8.2.2⟩
        have K9 := K8.trans k9
        have KA9 := KA8.trans k9
        refine ⟨_, rfl, s9, ?_⟩
        refine (same_law (Kept.refl w9) (OA.out.kept KA9).strs o9.1.strs (HF6.out.uniq h9)).mono ?_
        rintro e w10 ⟨rfl, _, k10⟩
        have s10 : Cells g k oF oI oT w10 := ⟨kept_cell k10 s9.1, kept_cell k10 s9.2.1, kept_cell k10 s9.2.2⟩
        have K10 := K9.trans k10
        refine ⟨rfl, s10, ?_⟩
        refine (of_law (H4.out.kept.trans K10) (H4.out.tr.kept K10) (by omega) oI HWF.out).mono ?_
        rintro e w11 ⟨a11, c11, fs11, rfl, o11, h11, _, k11⟩
        have s11 : Cells g k oF oI oT w11 := ⟨kept_cell k11 s10.1, kept_cell k11 s10.2.1, kept_cell k11 s10.2.2⟩
        have K11 := K10.trans k11
        refine ⟨_, rfl, s11, ?_⟩
        refine (rofd_any w11 w.heap.size r (k + 1) rs4 (H4.out.doc.kept K11).at_ (by omega) H4.out.fine A4 H4.out.says oI).mono ?_
        rintro e w12 ⟨v12, fs12, rfl, o12, h12, k12⟩
        have s12 : Cells g k oF oI oT w12 := ⟨kept_cell k12 s11.1, kept_cell k12 s11.2.1, kept_cell k12 s11.2.2⟩
        have K12 := K11.trans k12
        refine ⟨_, rfl, s12, ?_⟩
        refine (same_law (Kept.refl w12) (o11.kept k12).strs o12.1.strs (h11.uniq h12)).mono ?_
        rintro e w13 ⟨rfl, _, k13⟩
        have s13 : Cells g k oF oI oT w13 := ⟨kept_cell k13 s12.1, kept_cell k13 s12.2.1, kept_cell k13 s12.2.2⟩
        have K13 := K12.trans k13
        refine ⟨rfl, s13, ?_⟩
        refine (has_from (H4.out.kept.trans K13) (H4.out.tr.kept K13) oF (by omega) oI HWF.out cn HCN.out).mono ?_
        rintro e w14 ⟨rfl, _, k14⟩
        have s14 : Cells g k oF oI oT w14 := ⟨kept_cell k14 s13.1, kept_cell k14 s13.2.1, kept_cell k14 s13.2.2⟩
        have K14 := K13.trans k14
        refine ⟨rfl, s14, ?_⟩
        refine (rhas_any w14 w.heap.size r rs4 (H4.out.doc.kept K14).at_ A4 H4.out.says oF oI).mono ?_
        rintro e w15 ⟨rfl, k15⟩
        rw [HCN.out]
        have s15 : Cells g k oF oI oT w15 := ⟨kept_cell k15 s14.1, kept_cell k15 s14.2.1, kept_cell k15 s14.2.2⟩
        have K15 := K14.trans k15
        have KM15 : Kept w6 w15 := (((((((KA9.trans k10).trans k11).trans k12).trans k13).trans k14).trans k15))
        refine ⟨rfl, s15, ?_⟩
        have OM15 := Lib.hid ((OM.out.kept kk6).kept KM15)
        have OA15 := Lib.hid (OA.out.kept KM15)
        have H15 : Hid (Head w w15 (k + 1) (n + 9) t r N3 A4 rs4 (.slice (some ⟨g, 0, none⟩) os.length c1) os) := ⟨(H4.out.on K15).tr, (H4.out.on K15).n9, (H4.out.on K15).doc, (H4.out.on K15).fine, (H4.out.on K15).says, (H4.out.on K15).script, (H4.out.on K15).kept⟩
        have L4 : w4.heap.size ≤ w5.heap.size := kk5.size
        have L15 : w4.heap.size ≤ w15.heap.size := K15.size
        clear s0 s7 s8 s9 s10 s11 s12 s13 s14 s15 o7 h7 o9 h9 o11 h11 o12 h12 k7 k8 k9 k10 k11 k12 k13 k14 k15 K7 K8 K9 K10 K11 K12 K13 K14 KM7 KA8 KA9 KM15 E7 HW5 HF6 OM OA HWF HCN ex ey ec kkd kk46 kk5 kk6
        intro a' ha'
        unfold chain18 at ha'
        simp only [Act.put, List.setIfInBounds_toArray, List.set_cons_zero, List.set_cons_succ] at ha'
        subst ha'
        go_wp2
        obtain ⟨wo, hwo⟩ : ∃ wo, wo = wr := ⟨_, rfl⟩
        subst hwo
        have RM := Lib.hid (⟨_, OM15.out⟩ : Row w15 w4.heap.size 3 (.slice am ms.length cm) ms.length)
        have RA := Lib.hid (⟨_, OA15.out⟩ : Row w15 w5.heap.size 9 (.slice aa fs.length ca) fs.length)
        go_loopw [14] (fun iv wr => ∃ j : Nat, j ≤ ms.length ∧ iv = .int .i64 j ∧ Kept w4 wr ∧ Row wr w4.heap.size 3 (.slice am ms.length cm) ms.length ∧ Row wr w5.heap.size 9 (.slice aa fs.length ca) fs.length) (fun iv _ => ms.length - (intOf iv).toNat)
        case atStart => exact ⟨0, Nat.zero_le _, rfl, K15, RM.out, RA.out⟩
        case round =>
          clear RM RA K15 OM15 OA15
          obtain ⟨j, hj, rfl, K16, rm16, ra16⟩ := hrel
          have RM16 := Lib.hid rm16
          have RA16 := Lib.hid ra16
          have HK16 := Lib.hid K16
          clear rm16 ra16 K16
          by_cases hjl : j < ms.length
          · obtain ⟨gm, um, rfl, hm1, hm2, hm3, cm0, fm0⟩ := RM16.out.at hjl
            unfold maxLen at hm2
            have R1 := Lib.hid (RM16.out.set j (.int .i64 77))
            have R2 := Lib.hid (RM16.out.other RA16.out (by decide) j (.int .i64 77))
            have R3 := Lib.hid (RM16.out.keeps HK16.out (Nat.le_refl _) j (.int .i64 77))
            go_wp2
            go_roundw
            case rel => exact ⟨j + 1, by omega, by go_num, R3.out, R1.out, R2.out⟩
            case measure => simp [intOf]; omega
          · go_wp2
            obtain ⟨wo2, hwo2⟩ : ∃ wo2, wo2 = wr := ⟨_, rfl⟩
            subst hwo2
            go_loopw [15] (fun iv wr => ∃ j : Nat, j ≤ fs.length ∧ iv = .int .i64 j ∧ Kept w4 wr ∧ Row wr w5.heap.size 9 (.slice aa fs.length ca) fs.length) (fun iv _ => fs.length - (intOf iv).toNat)
            case atStart => exact ⟨0, Nat.zero_le _, rfl, HK16.out, RA16.out⟩
            case round =>
              clear RM16 RA16 HK16
              obtain ⟨j2, hj2, rfl, K17, ra17⟩ := hrel
              have RA17 := Lib.hid ra17
              have HK17 := Lib.hid K17
              clear ra17 K17
              by_cases hjl2 : j2 < fs.length
              · obtain ⟨gm, um, rfl, hm1, hm2, hm3, cm0, fm0⟩ := RA17.out.at hjl2
                unfold maxLen at hm2
                have R1 := Lib.hid (RA17.out.set j2 (.string ⟨#[115, 112, 111, 105, 108, 116]⟩))
                have R3 := Lib.hid (RA17.out.keeps HK17.out L4 j2 (.string ⟨#[115, 112, 111, 105, 108, 116]⟩))
                go_wp2
                go_roundw
                case rel => exact ⟨j2 + 1, by omega, by go_num, R3.out, R1.out⟩
                case measure => simp [intOf]; omega
              · go_wp2
                go_roundw
                case rel => exact ⟨k + 1, n + 9, t, N3, A4, rs4, by omega, rfl, by go_num, (H4.out.on HK17.out)⟩
                case measure => simp [intOf]; omega
    · have hke : k = os.length := by omega
      subst hke
      go_wp2_with fail
      refine (fixed_law HH.out.kept).mono ?_
      rintro e w5 ⟨rfl, k5⟩
      go_wp2
      go_ret
      exact ⟨rfl, k5⟩
end Go.Proofs.YtalebnhkidhglaaGreat
