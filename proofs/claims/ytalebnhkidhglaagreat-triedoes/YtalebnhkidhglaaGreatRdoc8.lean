/-
  A call of the document's trie: the walk of rivuletlaw04.same.
-/
import Derived.Test.YtalebnhkidhglaaGreatRdoc7
namespace Go.Proofs.YtalebnhkidhglaaGreat
open Go.ChangeShapes Go.WideShapes Go.ChangeAt Go.RowKit Go.Maps

set_option maxHeartbeats 2000000 in
set_option maxRecDepth 100000 in
theorem same_from {w0 w : World} (k : Kept w0 w) (r K : Nat) (rs : List AskV) (h : DTr w0 w r rs) (hK : K ≤ 900) (hf : DFine K rs) (A : Path → Int → Nat) (hd : Doc A rs) (o : OpV) (hfs : o.filter.size ≤ 150) (a b : Int) (hv : PlayV A o (.tuple #[.int .i64 a, .int .i64 b])) :
    Calls Tryz.prog 10 #[.pointer (some ⟨r, 0, none⟩), .agg #[.int .i64 o.kind, .string o.filter, .int .i64 o.id, .string o.topic]] w fun e w' => e = .returned (.tuple #[.int .i64 a, .int .i64 b]) ∧ ∃ rs', DTr w0 w' r rs' ∧ DFine (K + 1) rs' ∧ Doc (playA A o) rs' ∧ Kept w0 w' ∧ DBut w w' := by
  obtain ⟨Q, F, I, T⟩ := o
  have ka := kept_alloc w (.cells #[.int .i64 Q, .string F, .int .i64 I, .string T] 31)
  have h1 := Lib.hid (h.kept ka)
  have k1 := k.trans ka
  have KA := Lib.hid ka
  have HF := Lib.hid hf
  have HD := Lib.hid hd
  have HV := Lib.hid hv
  simp only at hfs
  clear h ka hf hd hv
  by_cases h0 : Q = 0
  · subst h0
    have hab := (HV.out.1 rfl).symm
    simp only at hab
    go_enter Tryz.func10, Tryz.ntmps10
    go_wp2_with fail
    have ca := radd_any k1 r K rs h1.out hK HF.out A HD.out F hfs I
    rw [hab] at ca
    refine ca.mono ?_
    rintro e w2 ⟨rfl, rs2, T2, f2, d2, k2, b2⟩
    have HT2 := Lib.hid T2
    have HF2 := Lib.hid f2
    have HD2 := Lib.hid d2
    have HB2 := Lib.hid b2
    clear T2 f2 d2 b2 ca hab
    go_wp2
    go_ret2
    exact ⟨rfl, rs2, HT2.out, HF2.out, HD2.out, k2, KA.out.dbut.trans HB2.out⟩
  · have e0 : (Q == 0) = false := by simpa using h0
    by_cases h1' : Q = 1
    · subst h1'
      have hab := (HV.out.2.1 rfl).symm
      simp only at hab
      go_enter Tryz.func10, Tryz.ntmps10
      go_wp2_with fail
      have ca := rdrop_any k1 r K rs h1.out hK HF.out A HD.out F hfs I
      rw [hab] at ca
      refine ca.mono ?_
      rintro e w2 ⟨rfl, rs2, T2, f2, d2, k2, b2⟩
      have HT2 := Lib.hid T2
      have HF2 := Lib.hid f2
      have HD2 := Lib.hid d2
      have HB2 := Lib.hid b2
      clear T2 f2 d2 b2 ca hab
      go_wp2
      go_ret2
      exact ⟨rfl, rs2, HT2.out, HF2.out, HD2.out, k2, KA.out.dbut.trans HB2.out⟩
    · have e1 : (Q == 1) = false := by simpa using h1'
      by_cases h2' : Q = 2
      · subst h2'
        obtain ⟨L, hL0, hL1, hL2⟩ := HV.out.2.2.1 rfl
        have hg := HD.out.gone I hL1 hL2
        have hL3 : a = (L.length : Int) ∧ b = 0 := by simpa using hL0
        obtain ⟨rfl, rfl⟩ := hL3
        go_enter Tryz.func10, Tryz.ntmps10
        go_wp2_with fail
        have ca := rleave_any k1 r K rs h1.out hK HF.out A HD.out I
        rw [hg] at ca
        refine ca.mono ?_
        rintro e w2 ⟨rfl, rs2, T2, f2, d2, k2, b2⟩
        have HT2 := Lib.hid T2
        have HF2 := Lib.hid f2
        have HD2 := Lib.hid d2
        have HB2 := Lib.hid b2
        clear T2 f2 d2 b2 ca hL1 hL2 hg
        go_wp2
        go_ret2
        exact ⟨rfl, rs2, HT2.out, HF2.out, HD2.out, k2, KA.out.dbut.trans HB2.out⟩
      · have e2 : (Q == 2) = false := by simpa using h2'
        have hL0 := HV.out.2.2.2 h0 h1' h2'
        have hL3 : a = 0 ∧ b = 0 := by simpa using hL0
        obtain ⟨rfl, rfl⟩ := hL3
        clear hL0
        go_enter Tryz.func10, Tryz.ntmps10
        go_wp2
        go_ret2
        refine ⟨rfl, rs, h1.out, HF.out.mono (by omega), ?_, k1, KA.out.dbut⟩
        have e3 : playA A ⟨Q, F, I, T⟩ = A := by unfold playA; rw [if_neg h0, if_neg h1', if_neg h2']
        rw [e3]
        exact HD.out
end Go.Proofs.YtalebnhkidhglaaGreat
