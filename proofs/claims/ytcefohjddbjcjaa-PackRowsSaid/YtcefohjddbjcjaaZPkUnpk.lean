/- The bits that bytes begin with: the program's Unpack. -/
import Derived.Test.YtcefohjddbjcjaaZPkUnp
namespace Go.Proofs.Ytcefohjddbjcjaa
set_option maxRecDepth 20000
open Go.RowKit
set_option linter.unusedVariables false
theorem fits_uniq {bs : List Nat} {n : Nat} {l m : List Nat} (hb : bs.length ≤ 9000) (h : Fits bs n l) (k : Fits bs n m) : l = m := by
  cases bs with
  | nil =>
    obtain ⟨_, _, ⟨r, e⟩ | ⟨j, _, r, e⟩⟩ := h
    · simp [stB] at e
    · simp [cdB] at e
  | cons md tl =>
    rcases md with _ | j
    · exact fronts_uniq (fits_0.1 h) (fits_0.1 k)
    · have hl : tl.length ≤ 10000 := by simp at hb; omega
      obtain ⟨h1, h2, h3, r, h4, h5⟩ := fits_k h hl
      obtain ⟨k1, k2, k3, s, k4, k5⟩ := fits_k k hl
      have e := begins_uniq' h3 k3
      rw [e] at h4
      have e2 : r = s := List.append_cancel_left (h4.symm.trans k4)
      rw [e, e2] at h5
      exact code_inj h1 k1 (by rw [h2, k2]) (fronts_uniq h5 k5)
theorem fits_pack {bs : List Nat} {n : Nat} {l : List Nat} {plain : Bool} {rest : List Nat} (h1 : Bin l) (h2 : l.length = n) (h : bs = packB l plain ++ rest) : Fits bs n l ∧ bs.getD 0 0 ≤ 9 ∧ (plain = true → bs.getD 0 0 = 0) ∧ bs ≠ [] := by
  unfold packB at h
  split at h
  · subst h
    exact ⟨⟨h1, h2, .inl ⟨rest, rfl⟩⟩, by simp [stB], fun _ => by simp [stB], by simp [stB]⟩
  · rename_i hp
    rcases bestB_is l 9 with e | ⟨j, hj, e⟩
    · rw [e] at h; subst h
      exact ⟨⟨h1, h2, .inl ⟨rest, rfl⟩⟩, by simp [stB], fun c => absurd c hp, by simp [stB]⟩
    · rw [e] at h; subst h
      exact ⟨⟨h1, h2, .inr ⟨j, by omega, rest, rfl⟩⟩, by simp [cdB]; omega, fun c => absurd c hp, by simp [cdB]⟩
/-- What Unpack comes to. -/
def UPost (w : World) (bs : List Nat) (n : Nat) (plain : Bool) (e : Ending) (w' : World) : Prop :=
  ((∃ l g A, Bin l ∧ l.length = n ∧ (∃ rest, bs = packB l plain ++ rest) ∧ e = .returned (.tuple #[.pointer (some ⟨g, 0, none⟩), .int .i64 ((packB l plain).length : Int), .int .i64 0]) ∧ VecAt w' g (val l) l.length A) ∨
   ((∀ l, Bin l → l.length = n → ∀ rest, bs ≠ packB l plain ++ rest) ∧ ∃ er : Int, (er = 3 ∨ er = 10) ∧ e = .returned (.tuple #[.pointer none, .int .i64 0, .int .i64 er]))) ∧ Below w.heap.size w w'
theorem hasPre_p (A1 A2 : Option Addr) (n c m d B1 B2 : Nat) (bs ps : List Nat) (w : World) (h1 : Rd w B1 A1 n (U8 bs)) (h2 : Rd w B2 A2 m (U8 ps)) (ha : ∀ b ∈ bs, b < 256) (hb : ∀ b ∈ ps, b < 256) (hnc : n ≤ c) :
    Calls Try.prog 31 #[.slice A1 n c, .slice A2 m d] w fun e w' => ((e = .returned (.bool true) ∧ ∃ rest, bs = ps ++ rest) ∨ (e = .returned (.bool false) ∧ ∀ rest, bs ≠ ps ++ rest)) ∧ w = w' := by
  have l1 : bs.length = n := by rw [← h1.len, U8_len]
  have l2 : ps.length = m := by rw [← h2.len, U8_len]
  by_cases hmn : m ≤ n
  · have hmc : (m : Int) ≤ (c : Int) := by omega
    have hmni : (m : Int) ≤ (n : Int) := by omega
    have RT : Rd w B1 A1 m (U8 (bs.take m)) := by
      have := h1.take m hmn
      rwa [show (U8 bs).take m = U8 (bs.take m) by simp [U8, List.map_take]] at this
    have EQ := Lib.hid (fun c' => equal_any A1 A2 m c' m d B1 B2 (bs.take m) ps w RT h2 (fun b hb' => ha b (List.mem_of_mem_take hb')) hb)
    by_cases he : bs.take m = ps
    · have YES : Hid (∃ rest, bs = ps ++ rest) := ⟨bs.drop m, by rw [← he, List.take_append_drop]⟩
      rw [decide_eq_true he] at EQ
      clear he RT h1 h2 l1 l2 ha hb
      go_enter Try.func31, Try.ntmps31
      go_wp2_with fail
      refine (EQ.out _).mono ?_
      rintro e w1 ⟨rfl, rfl⟩
      go_wp2_with fail
      go_ret
      exact ⟨.inl ⟨rfl, YES.out⟩, rfl⟩
    · have NO : Hid (∀ rest, bs ≠ ps ++ rest) := fun rest e => he (by rw [e, List.take_append_of_le_length (by omega), List.take_of_length_le (by omega)])
      rw [decide_eq_false he] at EQ
      clear he RT h1 h2 l1 l2 ha hb
      go_enter Try.func31, Try.ntmps31
      go_wp2_with fail
      refine (EQ.out _).mono ?_
      rintro e w1 ⟨rfl, rfl⟩
      go_wp2_with fail
      go_ret
      exact ⟨.inr ⟨rfl, NO.out⟩, rfl⟩
  · have NO : Hid (∀ rest, bs ≠ ps ++ rest) := fun rest e => hmn (by have := congrArg List.length e; rw [List.length_append] at this; omega)
    have hmni : ¬ (m : Int) ≤ (n : Int) := by omega
    clear hmn h1 h2 l1 l2 ha hb
    go_enter Try.func31, Try.ntmps31
    go_wp2_with fail
    go_ret
    exact ⟨.inr ⟨rfl, NO.out⟩, rfl⟩
theorem unp_range (A : Option Addr) (n c : Nat) (N : Int) (plain : Bool) (w : World) (h : N < 0 ∨ 16777216 < N) :
    Calls Try.prog 19 #[.slice A n c, .int .i64 N, .bool plain] w fun e w' => e = .returned (.tuple #[.pointer none, .int .i64 0, .int .i64 1]) ∧ w = w' := by
  rcases h with h | h
  · go_enter Try.func19, Try.ntmps19
    go_wp2_with fail
    refine bodyPost_ret (results_tmp3 rfl _ _ _) rfl ?_
    exact ⟨rfl, rfl⟩
  · have h0 : ¬ N < 0 := by omega
    go_enter Try.func19, Try.ntmps19
    go_wp2_with fail
    refine bodyPost_ret (results_tmp3 rfl _ _ _) rfl ?_
    exact ⟨rfl, rfl⟩
theorem unp_empty (A : Option Addr) (c N : Nat) (plain : Bool) (w : World) (hN : N ≤ 2000) :
    Calls Try.prog 19 #[.slice A 0 c, .int .i64 (N : Int), .bool plain] w fun e w' => e = .returned (.tuple #[.pointer none, .int .i64 0, .int .i64 3]) ∧ w = w' := by
  have h0 : ¬ (16777216 : Int) < (N : Int) := by omega
  go_enter Try.func19, Try.ntmps19
  go_wp2_with fail
  refine bodyPost_ret (results_tmp3 rfl _ _ _) rfl ?_
  exact ⟨rfl, rfl⟩
set_option maxHeartbeats 4000000 in
theorem unp_p (A : Option Addr) (n c N : Nat) (bs : List Nat) (plain : Bool) (w : World) (h : Rd w w.heap.size A n (U8 bs)) (hb : ∀ b ∈ bs, b < 256) (hn : n ≤ 9000) (hnc : n ≤ c) (hc : c ≤ 9223372036854775807) (hN : N ≤ 2000) :
    Calls Try.prog 19 #[.slice A n c, .int .i64 (N : Int), .bool plain] w (UPost w bs N plain) := by
  have hl : bs.length = n := by rw [← h.len, U8_len]
  cases bs with
  | nil =>
    obtain rfl : n = 0 := by rw [← hl]; rfl
    refine (unp_empty A c N plain w hN).mono fun e w' ⟨he, hw⟩ => ⟨.inr ⟨fun l h1 h2 r e2 => ?_, 3, .inl rfl, he⟩, hw ▸ Below.refl _ _⟩
    exact (fits_pack h1 h2 e2).2.2.2 rfl
  | cons md tl =>
    obtain ⟨n1, rfl⟩ : ∃ n1, n = n1 + 1 := ⟨tl.length, by rw [← hl]; rfl⟩
    obtain ⟨b, o, rfl, hbB, hcz⟩ := h.u8 (by omega)
    have c0 := hcz 0 (by omega)
    have hg0 : (md :: tl).getD 0 0 = md := rfl
    rw [hg0, Nat.add_zero] at c0
    have hmb := hb md (List.mem_cons_self ..)
    have hN0 : ¬ (16777216 : Int) < (N : Int) := by omega
    have HBS := Lib.hid hb
    have HR := Lib.hid h
    have HL := Lib.hid hl
    by_cases hbad : 9 < md ∨ (plain = true ∧ md ≠ 0)
    · have NO : Hid (∀ l, Bin l → l.length = N → ∀ rest, md :: tl ≠ packB l plain ++ rest) := fun l h1 h2 r e2 => by
        obtain ⟨_, f2, f3, _⟩ := fits_pack h1 h2 e2
        rw [hg0] at f2 f3
        rcases hbad with hbad | ⟨hp, hm⟩
        · omega
        · exact hm (f3 hp)
      clear h hb hcz hg0 hl
      by_cases h9 : 9 < md
      · have h9i : (9 : Int) < (md : Int) := by omega
        clear hbad
        go_enter Try.func19, Try.ntmps19
        go_wp2_with fail
        refine bodyPost_ret (results_tmp3 rfl _ _ _) rfl ?_
        exact ⟨.inr ⟨NO.out, 3, .inl rfl, rfl⟩, Below.refl _ _⟩
      · obtain ⟨rfl, hm⟩ : plain = true ∧ md ≠ 0 := by
          rcases hbad with c | c
          · exact absurd c h9
          · exact c
        have h9i : ¬ (9 : Int) < (md : Int) := by omega
        have hm1 : ((md : Int) != 0) = true := by simp [hm]
        have hm2 : (md != 0) = true := by simp [hm]
        have hm3 : ((md : Int) == 0) = false := by simp [hm]
        clear hbad
        go_enter Try.func19, Try.ntmps19
        go_wp2_with fail
        refine bodyPost_ret (results_tmp3 rfl _ _ _) rfl ?_
        exact ⟨.inr ⟨NO.out, 3, .inl rfl, rfl⟩, Below.refl _ _⟩
    · have h9 : md ≤ 9 := by omega
      have h9i : ¬ (9 : Int) < (md : Int) := by omega
      have hpl : plain = false ∨ md = 0 := by
        by_cases c : md = 0
        · exact .inr c
        · left
          cases plain with
          | false => rfl
          | true => exact absurd (.inr ⟨rfl, c⟩) hbad
      have UP := Lib.hid (unpack_p (some ⟨b, o, none⟩) n1 c N md tl w h hb (by omega) hnc hc h9 hN)
      have HLE : Hid ((md :: tl).length ≤ 9000) := by show _ ≤ _; rw [hl]; omega
      clear h hb hcz hg0 hl hbad
      cases plain
      · go_enter Try.func19, Try.ntmps19
        go_wp2_with fail
        refine UP.out.mono ?_
        rintro e w1 ⟨hor, b1⟩
        rcases hor with ⟨l, g, A', hf, rfl, hv⟩ | ⟨hno, er, her, rfl⟩
        rotate_left
        · have HNO := Lib.hid hno
          have hne : (er != 0) = true := by rcases her with rfl | rfl <;> rfl
          have HER := Lib.hid her
          clear hno her UP
          go_wp2_with fail
          refine bodyPost_ret (results_tmp3 rfl _ _ _) rfl ?_
          exact ⟨.inr ⟨fun l h1 h2 r e2 => HNO.out l (fits_pack h1 h2 e2).1, er, HER.out, rfl⟩, b1⟩
        · have HF := Lib.hid hf
          have HV := Lib.hid hv
          have PK := Lib.hid (pack_p (some ⟨g, 0, none⟩) l false w1 (Packs.of hv hf.1 (by rw [hf.2.1]; omega)) (by rw [hf.2.1]; omega))
          have R1 := Lib.hid ((HR.out.below b1).up b1.size)
          have HB1 := Lib.hid b1
          clear hf hv b1 UP HR
          go_wp2_with fail
          refine PK.out.mono ?_
          rintro e w2 ⟨A2, c2, rfl, hc2, hm2, ho2, b2⟩
          obtain ⟨m, hm⟩ : ∃ m, m = (packB l false).length := ⟨_, rfl⟩
          have HM := Lib.hid hm
          rw [← hm] at ho2 hc2 ⊢
          have HP := Lib.hid (hasPre_p (some ⟨b, o, none⟩) A2 (n1 + 1) c m c2 _ _ (md :: tl) (packB l false) w2 ((R1.out.below b2).up b2.size) (Rd.ofOwn ho2) HBS.out (packB_lt l false) hnc)
          have B2 := Lib.hid (HB1.out.trans (b2.mono HB1.out.size))
          have HV2 := Lib.hid (VecB.below HV.out b2)
          clear ho2 hc2 hm2 b2 PK R1 HB1 HV hm
          go_wp2_with fail
          refine HP.out.mono ?_
          rintro e w3 ⟨hor, rfl⟩
          rcases hor with ⟨rfl, hyes⟩ | ⟨rfl, hno⟩
          · have HY := Lib.hid hyes
            clear hyes HP
            go_wp2_with fail
            refine bodyPost_ret (results_tmp3 rfl _ _ _) rfl ?_
            exact ⟨.inl ⟨l, g, A', HF.out.1, HF.out.2.1, HY.out, by rw [← HM.out]; rfl, HV2.out⟩, B2.out⟩
          · have HNO := Lib.hid hno
            clear hno HP
            go_wp2_with fail
            refine bodyPost_ret (results_tmp3 rfl _ _ _) rfl ?_
            refine ⟨.inr ⟨fun l' h1 h2 r e2 => ?_, 10, .inr rfl, rfl⟩, B2.out⟩
            have e3 := fits_uniq HLE.out (fits_pack h1 h2 e2).1 HF.out
            rw [e3] at e2
            exact HNO.out r e2
      · obtain rfl : md = 0 := by
          rcases hpl with c | c
          · cases c
          · exact c
        go_enter Try.func19, Try.ntmps19
        go_wp2_with fail
        refine UP.out.mono ?_
        rintro e w1 ⟨hor, b1⟩
        rcases hor with ⟨l, g, A', hf, rfl, hv⟩ | ⟨hno, er, her, rfl⟩
        rotate_left
        · have HNO := Lib.hid hno
          have hne : (er != 0) = true := by rcases her with rfl | rfl <;> rfl
          have HER := Lib.hid her
          clear hno her UP
          go_wp2_with fail
          refine bodyPost_ret (results_tmp3 rfl _ _ _) rfl ?_
          exact ⟨.inr ⟨fun l h1 h2 r e2 => HNO.out l (fits_pack h1 h2 e2).1, er, HER.out, rfl⟩, b1⟩
        · have HF := Lib.hid hf
          have HV := Lib.hid hv
          have PK := Lib.hid (pack_p (some ⟨g, 0, none⟩) l true w1 (Packs.of hv hf.1 (by rw [hf.2.1]; omega)) (by rw [hf.2.1]; omega))
          have R1 := Lib.hid ((HR.out.below b1).up b1.size)
          have HB1 := Lib.hid b1
          clear hf hv b1 UP HR
          go_wp2_with fail
          refine PK.out.mono ?_
          rintro e w2 ⟨A2, c2, rfl, hc2, hm2, ho2, b2⟩
          obtain ⟨m, hm⟩ : ∃ m, m = (packB l true).length := ⟨_, rfl⟩
          have HM := Lib.hid hm
          rw [← hm] at ho2 hc2 ⊢
          have HP := Lib.hid (hasPre_p (some ⟨b, o, none⟩) A2 (n1 + 1) c m c2 _ _ (0 :: tl) (packB l true) w2 ((R1.out.below b2).up b2.size) (Rd.ofOwn ho2) HBS.out (packB_lt l true) hnc)
          have B2 := Lib.hid (HB1.out.trans (b2.mono HB1.out.size))
          have HV2 := Lib.hid (VecB.below HV.out b2)
          clear ho2 hc2 hm2 b2 PK R1 HB1 HV hm
          go_wp2_with fail
          refine HP.out.mono ?_
          rintro e w3 ⟨hor, rfl⟩
          rcases hor with ⟨rfl, hyes⟩ | ⟨rfl, hno⟩
          · have HY := Lib.hid hyes
            clear hyes HP
            go_wp2_with fail
            refine bodyPost_ret (results_tmp3 rfl _ _ _) rfl ?_
            exact ⟨.inl ⟨l, g, A', HF.out.1, HF.out.2.1, HY.out, by rw [← HM.out]; rfl, HV2.out⟩, B2.out⟩
          · have HNO := Lib.hid hno
            clear hno HP
            go_wp2_with fail
            refine bodyPost_ret (results_tmp3 rfl _ _ _) rfl ?_
            refine ⟨.inr ⟨fun l' h1 h2 r e2 => ?_, 10, .inr rfl, rfl⟩, B2.out⟩
            have e3 := fits_uniq HLE.out (fits_pack h1 h2 e2).1 HF.out
            rw [e3] at e2
            exact HNO.out r e2
end Go.Proofs.Ytcefohjddbjcjaa
