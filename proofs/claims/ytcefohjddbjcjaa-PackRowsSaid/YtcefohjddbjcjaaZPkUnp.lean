/- The bits whose bytes stand in front: the program's unpack. -/
import Derived.Test.YtcefohjddbjcjaaZPkFront
namespace Go.Proofs.Ytcefohjddbjcjaa
set_option maxRecDepth 20000
open Go.RowKit
set_option linter.unusedVariables false
/-- Bytes that begin with bits as they are, or with a code of theirs. -/
def Fits (bs : List Nat) (n : Nat) (l : List Nat) : Prop := Bin l ∧ l.length = n ∧ ((∃ rest, bs = stB l ++ rest) ∨ ∃ k, k ≤ 8 ∧ ∃ rest, bs = cdB l k ++ rest)
def UnpPost (w : World) (bs : List Nat) (n : Nat) (e : Ending) (w' : World) : Prop :=
  ((∃ l g A, Fits bs n l ∧ e = .returned (.tuple #[.pointer (some ⟨g, 0, none⟩), .int .i64 0]) ∧ VecAt w' g (val l) l.length A) ∨
   ((∀ l, ¬ Fits bs n l) ∧ ∃ er : Int, (er = 3 ∨ er = 10) ∧ e = .returned (.tuple #[.pointer none, .int .i64 er]))) ∧ Below w.heap.size w w'
theorem fits_0 {tl : List Nat} {n : Nat} {l : List Nat} : Fits (0 :: tl) n l ↔ Fronts tl n l := by
  constructor
  · rintro ⟨h1, h2, h3⟩
    rcases h3 with ⟨r, e⟩ | ⟨k, _, r, e⟩
    · simp only [stB, List.cons_append, List.cons.injEq, true_and] at e
      exact ⟨h1, h2, r, by rw [← h2]; exact e⟩
    · simp [cdB] at e
  · rintro ⟨h1, h2, r, e⟩
    exact ⟨h1, h2, .inl ⟨r, by rw [e, stB, h2]; rfl⟩⟩
theorem fits_k {tl : List Nat} {k n : Nat} {l : List Nat} (h : Fits ((k + 1) :: tl) n l) (hl : tl.length ≤ 10000) : Bin l ∧ l.length = n ∧ Begins tl (codeOf k l).length ∧ ∃ r0, tl = numB (codeOf k l).length ++ r0 ∧ Fronts r0 (codeOf k l).length (codeOf k l) := by
  obtain ⟨h1, h2, h3⟩ := h
  rcases h3 with ⟨r, e⟩ | ⟨j, _, r, e⟩
  · simp [stB] at e
  · simp only [cdB, List.cons_append, List.cons.injEq] at e
    obtain ⟨e1, e2⟩ := e
    obtain rfl : j = k := by omega
    rw [List.append_assoc] at e2
    have hlen := congrArg List.length e2
    rw [List.length_append, List.length_append, bytesL_len] at hlen
    exact ⟨h1, h2, ⟨by omega, _, e2⟩, _, e2, code_bin j l, rfl, r, rfl⟩
theorem fits_of {tl r0 : List Nat} {k n x : Nat} {C l : List Nat} (hk : k ≤ 8) (hb : Bin l) (hl : l.length = n) (hc : codeOf k l = C) (h1 : tl = numB x ++ r0) (h2 : Fronts r0 x C) : Fits ((k + 1) :: tl) n l := by
  obtain ⟨_, h4, r, h5⟩ := h2
  refine ⟨hb, hl, .inr ⟨k, hk, r, ?_⟩⟩
  rw [cdB, hc, h4, h1, h5, List.cons_append, List.append_assoc]
theorem begins_uniq' {bs : List Nat} {x y : Nat} (h : Begins bs x) (k : Begins bs y) : x = y := by
  obtain ⟨_, r, e⟩ := h
  obtain ⟨_, s, f⟩ := k
  exact (numB_uniq (e.symm.trans f)).1
set_option maxHeartbeats 8000000 in
theorem unpack_p (A : Option Addr) (n1 c n md : Nat) (tl : List Nat) (w : World) (h : Rd w w.heap.size A (n1 + 1) (U8 (md :: tl))) (hb : ∀ b ∈ md :: tl, b < 256) (hn1 : n1 ≤ 9000) (hnc : n1 + 1 ≤ c) (hc : c ≤ 9223372036854775807) (hmd : md ≤ 9) (hn : n ≤ 2000) :
    Calls Try.prog 30 #[.slice A (n1 + 1) c, .int .i64 (n : Int)] w (UnpPost w (md :: tl) n) := by
  have hl : tl.length = n1 := by have := h.len; rw [U8_len] at this; simpa using this
  have htb : ∀ b ∈ tl, b < 256 := fun b hb' => hb b (List.mem_cons_of_mem _ hb')
  obtain ⟨b, o, rfl, hbB, hcz⟩ := h.u8 (by omega)
  have c0 := hcz 0 (by omega)
  have hg0 : (md :: tl).getD 0 0 = md := rfl
  rw [hg0, Nat.add_zero] at c0
  have RA : Hid (Rd w w.heap.size (some ⟨b, o + 1, none⟩) n1 (U8 tl)) := by
    have := h.drop 1
    rw [show (U8 (md :: tl)).drop 1 = U8 tl by simp [U8], Nat.add_sub_cancel] at this
    exact this
  have RB : Hid (n1 = 0 → ∀ A', Rd w w.heap.size A' n1 (U8 tl)) := fun e A' => by
    subst e
    rw [List.eq_nil_of_length_eq_zero hl]
    exact Rd.nil _ _ _
  have HL := Lib.hid hl
  have HTB := Lib.hid htb
  by_cases h0 : md = 0
  · subst h0
    have FR : Hid (∀ A' c', Rd w w.heap.size A' n1 (U8 tl) → n1 ≤ c' → c' ≤ 9223372036854775807 → Calls Try.prog 38 #[.slice A' n1 c', .int .u64 (n : Int)] w (FrontPost w tl n)) := fun A' c' hr h1 h2 => front_p A' n1 c' n tl w hr HTB.out (by omega) h1 h2 (by omega)
    clear h hb hcz hl htb hg0
    go_enter Try.func30, Try.ntmps30
    go_wp2_with fail
    all_goals (
      refine (FR.out _ _ (by first | exact RA.out | exact RB.out (by omega) _) (by omega) (by omega)).mono ?_
      rintro e w1 ⟨hor, b1⟩
      rcases hor with ⟨l, g, A', hf, rfl, hv⟩ | ⟨hno, rfl⟩
      · have HF := Lib.hid hf
        have HV := Lib.hid hv
        clear hf hv
        go_wp2_with fail
        go_ret2
        exact ⟨.inl ⟨l, g, A', fits_0.2 HF.out, rfl, by rw [HF.out.2.1]; exact HV.out⟩, b1⟩
      · have HNO := Lib.hid hno
        clear hno
        go_wp2_with fail
        go_ret2
        exact ⟨.inr ⟨fun l hf => HNO.out l (fits_0.1 hf), 3, .inl rfl, rfl⟩, b1⟩)
  · obtain ⟨k, rfl⟩ : ∃ k, md = k + 1 := ⟨md - 1, by omega⟩
    have hk8 : k ≤ 8 := by omega
    obtain ⟨md, hmd2⟩ : ∃ md, md = k + 1 := ⟨_, rfl⟩
    have HMD := Lib.hid hmd2
    rw [← hmd2] at c0
    have hmdn : (md : Int) - 1 = (k : Int) := by omega
    have hmb : ((md : Int) == 0) = false := by simp; omega
    have hmb2 : (md == 0) = false := by simp; omega
    have GN : Hid (∀ A' c', Rd w w.heap.size A' n1 (U8 tl) → Calls Try.prog 12 #[.slice A' n1 c'] w (GetPost w tl)) := fun A' c' hr => pkGet_p A' n1 c' _ tl w hr HTB.out (by omega)
    have HF0 := Lib.hid h
    clear hb hcz hl htb hg0 h0 hmd2 h
    go_enter Try.func30, Try.ntmps30
    go_wp2_with fail
    all_goals (
      refine (GN.out _ _ (by first | exact RA.out | exact RB.out (by omega) _)).mono ?_
      rintro e w1 ⟨hor, rfl⟩
      rcases hor with ⟨x, hx, rfl⟩ | ⟨hno, rfl⟩
      rotate_left
      · have HNO := Lib.hid hno
        clear hno
        go_wp2_with fail
        go_ret2
        exact ⟨.inr ⟨fun l hf => HNO.out _ (fits_k hf (by rw [HL.out]; omega)).2.2.1, 3, .inl rfl, rfl⟩, Below.refl _ _⟩
      · obtain ⟨hx64, r0, hr0⟩ := hx
        have HBX : Hid (Begins tl x) := ⟨hx64, r0, hr0⟩
        obtain ⟨tk, htk⟩ : ∃ tk, tk = (numB x).length := ⟨_, rfl⟩
        have ht10 : tk ≤ 10 := by rw [htk]; exact numB_len10 hx64
        have hlr : tk + r0.length = n1 := by rw [htk, ← List.length_append, ← hr0, HL.out]
        obtain ⟨m2, hm2⟩ : ∃ m2, m2 = r0.length := ⟨_, rfl⟩
        rw [← hm2] at hlr
        rw [← htk]
        have RA2 : Hid (∀ q, q = o + (1 + tk) → Rd w w.heap.size (some ⟨b, q, none⟩) m2 (U8 r0)) := fun q hq => by
          have h1 := HF0.out.drop (1 + tk)
          have e1 : (U8 ((k + 1) :: tl)).drop (1 + tk) = U8 r0 := by
            rw [hr0, Nat.add_comm 1 tk]
            simp only [U8, List.map_cons, List.drop_succ_cons, List.map_append]
            rw [List.drop_append_of_le_length (by simp [← htk]), List.drop_of_length_le (by simp [← htk]), List.nil_append]
          rw [e1, show n1 + 1 - (1 + tk) = m2 by omega] at h1
          rw [hq]
          exact h1
        have RB2 : Hid (m2 = 0 → ∀ A', Rd w w.heap.size A' m2 (U8 r0)) := fun e A' => by
          subst e
          rw [List.eq_nil_of_length_eq_zero hm2.symm]
          exact Rd.nil _ _ _
        have hrb : ∀ b ∈ r0, b < 256 := fun b hb' => HTB.out b (by rw [hr0]; exact List.mem_append_right _ hb')
        have FR : Hid (∀ A' m' c', m' = m2 → Rd w w.heap.size A' m2 (U8 r0) → m' ≤ c' → c' ≤ 9223372036854775807 → Calls Try.prog 38 #[.slice A' m' c', .int .u64 (x : Int)] w (FrontPost w r0 x)) := fun A' m' c' hm hr h1 h2 => by
          subst hm
          exact front_p A' m' c' x r0 w hr hrb (by omega) h1 h2 hx64
        have NOT : Hid (∀ l, Fits ((k + 1) :: tl) n l → Fronts r0 x (codeOf k l) ∧ Bin l ∧ l.length = n) := fun l hf => by
          obtain ⟨f1, f2, f3, r1, f4, f5⟩ := fits_k hf (by rw [HL.out]; omega)
          have e1 := begins_uniq' HBX.out f3
          rw [← e1] at f4 f5
          have e2 : r0 = r1 := List.append_cancel_left (hr0.symm.trans f4)
          rw [e2]
          exact ⟨f5, f1, f2⟩
        have FIT : Hid (∀ C l, Fronts r0 x C → Bin l → l.length = n → codeOf k l = C → Fits ((k + 1) :: tl) n l) := fun C l h1 h2 h3 h4 => fits_of hk8 h2 h3 h4 hr0 h1
        have h1tk : (1 : Int) + (tk : Int) ≤ (n1 : Int) + 1 := by omega
        have hl1 := Lib.hid hlr
        clear hx64 hr0 htk hrb hm2 GN HF0
        go_wp2_with fail
        all_goals (
          refine (FR.out _ _ _ (by omega) (by first | exact RA2.out _ (by omega) | exact RB2.out (by omega) _) (by omega) (by omega)).mono ?_
          rintro e w2 ⟨hor, b2⟩
          rcases hor with ⟨C, g, A', hf, rfl, hv⟩ | ⟨hno, rfl⟩
          rotate_left
          · have HNO := Lib.hid hno
            clear hno FR
            go_wp2_with fail
            go_ret2
            exact ⟨.inr ⟨fun l hf => HNO.out _ (NOT.out l hf).1, 3, .inl rfl, rfl⟩, b2⟩
          · have HF := Lib.hid hf
            have hv' : VecAt w2 g (val C) C.length A' := by rw [hf.2.1]; exact hv
            have DC := Lib.hid (Decode_p k g n C _ A' w2 hv' hf.1 hk8 (by omega))
            have c0' := (b2.cell (p := ⟨b, o, none⟩) hbB).trans c0
            have B2 := Lib.hid b2
            clear hf hv hv' FR b2
            go_wp2_with fail
            refine DC.out.mono ?_
            rintro e w3 ⟨hor, b3⟩
            have B3 := Lib.hid (B2.out.trans (b3.mono B2.out.size))
            rcases hor with ⟨u, gw, A3, hu, hcu, hbu, rfl, hvu, _⟩ | ⟨hno, rfl⟩
            · have HU := Lib.hid (And.intro hu (And.intro hcu hbu))
              have HV := Lib.hid hvu
              clear hu hcu hbu hvu b3 DC
              go_wp2_with fail
              go_ret2
              exact ⟨.inl ⟨u, gw, A3, FIT.out C u HF.out HU.out.2.2 HU.out.1 HU.out.2.1, rfl, HV.out⟩, B3.out⟩
            · have HNO := Lib.hid hno
              clear hno b3 DC
              go_wp2_with fail
              go_ret2
              refine ⟨.inr ⟨fun l hf => ?_, 10, .inr rfl, rfl⟩, B3.out⟩
              obtain ⟨f1, f2, f3⟩ := NOT.out l hf
              exact HNO.out l f2 f3 (fronts_uniq f1 HF.out)))
end Go.Proofs.Ytcefohjddbjcjaa
