/- leap, seek. -/
import Derived.Test.YtdpejjokdncfnaaDoorQScan
import Derived.Test.YtdpejjokdncfnaaDoorQFindB
import Derived.Deep.RegionHeld3
namespace Go.Proofs.YtdpejjokdncfnaaDoor
open Go.RowKit
set_option linter.unusedVariables false
set_option maxRecDepth 20000
theorem PAt.tr {w : World} {p g V n q : Nat} (h : PAt w p g V n true q) : ∃ S M K T, w.cell? ⟨p, 4, none⟩ = some (.slice (some ⟨S, 0, none⟩) M M) ∧ TrAt w (exc V) n S K M T := by
  obtain ⟨_, _, H, hb, S, M, K, T, h1, rfl, h3, h4, h5, h6⟩ := h
  exact ⟨S, M, K, T, hb.cell 4, RdT.ofBlk h3, h4, h3.lt, h5, h6⟩
def LeapF (w : World) (p g V n q b : Nat) (m : Int) (e : Ending) (w' : World) : Prop :=
  PAt w' p g V n true (q + 1) ∧ Mod (fun i => i = g) w w' ∧ ∃ r : Nat, e = .returned (.int .i64 ((r : Int) * 512)) ∧ FirstB (exc V) n b m r
def LeapB (w : World) (p g V n q b : Nat) (m : Int) (e : Ending) (w' : World) : Prop :=
  PAt w' p g V n true (q + 1) ∧ Mod (fun i => i = g) w w' ∧ ∃ r : Nat, e = .returned (.int .i64 (((r : Int) + 1) * 512)) ∧ LastB (exc V) n b m r
/-- The last place is low. -/
theorem has_end {E : Nat → Int} {n b : Nat} {m : Int} (hB : Bal E n) (hb : 512 * b < n) (hm : 0 ≤ m) : ∃ t, b ≤ t ∧ 512 * t < n ∧ Has E n t (t + 1) m :=
  ⟨(n - 1) / 512, by omega, by omega, n, by omega, by omega, by rw [hB.2]; exact hm⟩
theorem has_start {E : Nat → Int} (hE : Exc E) {n b : Nat} {m : Int} (hm : 0 ≤ m) : ∃ t, t ≤ b ∧ Has E n t (t + 1) m :=
  ⟨0, by omega, 0, by omega, by omega, by rw [hE.zero]; exact hm⟩
section
variable (p g V n q : Nat) (w : World)
set_option maxHeartbeats 4000000 in
theorem leap_f (b : Nat) (m : Int) (h : PAt w p g V n true q) (hB : Bal (exc V) n) (hb : 512 * b < n) (hm : 0 ≤ m) (hq : q ≤ 1000000) :
    Calls Tryd.prog 50 #[.pointer (some ⟨p, 0, none⟩), .int .i64 ((512 * b : Nat) : Int), .int .i64 1, .int .i64 m] w (LeapF w p g V n q b m) := by
  have hn := h.n9
  obtain ⟨S, M, K, T, c4, htr⟩ := h.tr
  have hpl := h.lt
  have EX := Lib.hid (excess_p p g V n q true w.drew (512 * b) (h.below (Below.refl _ _).drew) (by omega) hq)
  have BO := Lib.hid fun w' => bitOn_f w' ((512 * b : Nat) : Int)
  have HE := Lib.hid (exc_Exc V)
  have HT := Lib.hid (has_end hB hb hm)
  have FD : Hid (∀ w', PAt w' p g V n true (q + 1) → w'.cell? ⟨p, 4, none⟩ = some (.slice (some ⟨S, 0, none⟩) M M) → Calls Tryd.prog 66 #[.slice (some ⟨S, 0, none⟩) M M, .int .i64 (b : Int), .int .i64 1, .int .i64 (exc V (512 * b)), .int .i64 m] w' (FindF w' (exc V) n b m)) := fun w' h' c4' => by
    obtain ⟨S9, M9, K9, T9, c9, t9⟩ := h'.tr
    obtain ⟨rfl, rfl⟩ : S9 = S ∧ M9 = M := by
      have := c9.symm.trans c4'
      simp at this
      exact this
    exact find_f w' (exc V) HE.out n _ K9 _ T9 t9 hn _ b m hb HT.out
  have e1 : ((512 * b : Nat) : Int) / 512 = (b : Int) := by omega
  have e2 : ((512 * b : Nat) : Int) = 512 * (b : Int) := by omega
  have HC4 := Lib.hid c4
  have hgp := h.1
  have HP := Lib.hid h
  obtain ⟨o, ho⟩ : ∃ o, 512 * b = o := ⟨_, rfl⟩
  rw [ho] at EX BO FD e1 ⊢
  clear h hB e2 htr ho
  go_enter Tryd.func50, Tryd.ntmps50
  go_wp2_with fail
  have c4d : w.drew.cell? ⟨p, 4, none⟩ = some (.slice (some ⟨S, 0, none⟩) M M) := c4
  clear HC4
  have wb : IntKind.i64.wrap (b : Int) = (b : Int) := by rw [IntKind.wrap_i64]; omega
  go_region_held3 (fun w' => w'.cell? ⟨p, 4, none⟩ = some (.slice (some ⟨S, 0, none⟩) M M))
    (assumption)
    (first
    | (go_at_call 47; (with_reducible refine (BO.out _).mono ?_); rintro e w' ⟨rfl, rfl⟩)
    | (go_at_call 33; (with_reducible refine EX.out.mono ?_); rintro e w9 ⟨rfl, h9, m9⟩; have c9 : w9.cell? ⟨p, 4, none⟩ = some (.slice (some ⟨S, 0, none⟩) M M) := (m9.cell (b := p) hpl (by omega) 4).trans c4; have H9 := Lib.hid h9; have M9 := Lib.hid m9; clear h9 m9)
    | (go_at_call 66; (with_reducible refine (FD.out _ H9.out c9).mono ?_); rintro e w10 ⟨r, rfl, hr, b10⟩; have c10 : w10.cell? ⟨p, 4, none⟩ = some (.slice (some ⟨S, 0, none⟩) M M) := (b10.cell (p := ⟨p, 4, none⟩) H9.out.lt).trans c9; have HR := Lib.hid hr; have H10 := Lib.hid (H9.out.below b10); have M10 := Lib.hid ((Mod.drew (Mod.refl (fun i => i = g) w)).trans (M9.out.trans (Mod.none_ b10 _) fun _ _ h => h) fun _ _ h => h); clear b10 hr))
  all_goals (
    have hr9 := HR.out.lt
    clear wb
    go_wp2_with fail
    go_ret
    exact ⟨H10.out, M10.out, r, rfl, HR.out⟩)
set_option maxHeartbeats 4000000 in
theorem leap_b (b : Nat) (m : Int) (h : PAt w p g V n true q) (hb : 512 * (b + 1) ≤ n) (hm : 0 ≤ m) (hq : q ≤ 1000000) :
    Calls Tryd.prog 50 #[.pointer (some ⟨p, 0, none⟩), .int .i64 ((512 * (b + 1) : Nat) : Int), .int .i64 (-1), .int .i64 m] w (LeapB w p g V n q b m) := by
  have hn := h.n9
  obtain ⟨S, M, K, T, c4, htr⟩ := h.tr
  have hpl := h.lt
  have EX := Lib.hid (excess_p p g V n q true w.drew (512 * (b + 1)) (h.below (Below.refl _ _).drew) (by omega) hq)
  have BO := Lib.hid fun w' => bitOn_b w' ((512 * (b + 1) : Nat) : Int) (by omega) (by omega)
  have HE := Lib.hid (exc_Exc V)
  have HT := Lib.hid (has_start (n := n) (b := b) HE.out hm)
  have FD : Hid (∀ w', PAt w' p g V n true (q + 1) → w'.cell? ⟨p, 4, none⟩ = some (.slice (some ⟨S, 0, none⟩) M M) → Calls Tryd.prog 66 #[.slice (some ⟨S, 0, none⟩) M M, .int .i64 (b : Int), .int .i64 (-1), .int .i64 (exc V (512 * (b + 1))), .int .i64 m] w' (FindB w' (exc V) n b m)) := fun w' h' c4' => by
    obtain ⟨S9, M9, K9, T9, c9, t9⟩ := h'.tr
    obtain ⟨rfl, rfl⟩ : S9 = S ∧ M9 = M := by
      have := c9.symm.trans c4'
      simp at this
      exact this
    exact find_b w' (exc V) HE.out n _ K9 _ T9 t9 hn _ b m hb HT.out
  have e1 : (((512 * (b + 1) : Nat) : Int) - 1) / 512 = (b : Int) := by omega
  have HC4 := Lib.hid c4
  have hgp := h.1
  have HP := Lib.hid h
  obtain ⟨o, ho⟩ : ∃ o, 512 * (b + 1) = o := ⟨_, rfl⟩
  have ho1 : 1 ≤ o := by omega
  rw [ho] at EX BO FD e1 ⊢
  clear h htr ho
  go_enter Tryd.func50, Tryd.ntmps50
  go_wp2_with fail
  have c4d : w.drew.cell? ⟨p, 4, none⟩ = some (.slice (some ⟨S, 0, none⟩) M M) := c4
  clear HC4
  have wb : IntKind.i64.wrap (b : Int) = (b : Int) := by rw [IntKind.wrap_i64]; omega
  have wo : IntKind.i64.wrap (((o : Int) - 1) / 512) = (b : Int) := by rw [e1, wb]
  have wt : IntKind.i64.wrap (((o : Int) - 1).tdiv 512) = (b : Int) := by rw [Int.tdiv_eq_ediv_of_nonneg (by omega), e1, wb]
  go_region_held3 (fun w' => w'.cell? ⟨p, 4, none⟩ = some (.slice (some ⟨S, 0, none⟩) M M))
    (assumption)
    (first
    | (go_at_call 47; (with_reducible refine (BO.out _).mono ?_); rintro e w' ⟨rfl, rfl⟩)
    | (go_at_call 33; (with_reducible refine EX.out.mono ?_); rintro e w9 ⟨rfl, h9, m9⟩; have c9 : w9.cell? ⟨p, 4, none⟩ = some (.slice (some ⟨S, 0, none⟩) M M) := (m9.cell (b := p) hpl (by omega) 4).trans c4; have H9 := Lib.hid h9; have M9 := Lib.hid m9; clear h9 m9)
    | (go_at_call 66; (with_reducible refine (FD.out _ H9.out c9).mono ?_); rintro e w10 ⟨r, rfl, hr, b10⟩; have c10 : w10.cell? ⟨p, 4, none⟩ = some (.slice (some ⟨S, 0, none⟩) M M) := (b10.cell (p := ⟨p, 4, none⟩) H9.out.lt).trans c9; have HR := Lib.hid hr; have H10 := Lib.hid (H9.out.below b10); have M10 := Lib.hid ((Mod.drew (Mod.refl (fun i => i = g) w)).trans (M9.out.trans (Mod.none_ b10 _) fun _ _ h => h) fun _ _ h => h); clear b10 hr))
  all_goals (
    have hr9 := HR.out.le
    clear wb wo wt
    go_wp2_with fail
    go_ret
    exact ⟨H10.out, M10.out, r, rfl, HR.out⟩)
def SeekF (w : World) (p g V n q i : Nat) (m : Int) (e : Ending) (w' : World) : Prop :=
  PAt w' p g V n true (q + 3) ∧ Mod (fun i => i = g) w w' ∧ ∃ j : Nat, e = .returned (.int .i64 (j : Int)) ∧ Fwd (exc V) i n m j
def SeekB (w : World) (p g V n q a : Nat) (m : Int) (e : Ending) (w' : World) : Prop :=
  PAt w' p g V n true (q + 3) ∧ Mod (fun i => i = g) w w' ∧ ∃ j : Nat, e = .returned (.int .i64 (j : Int)) ∧ Bwd (exc V) a m j
/-- Behind the leap it is found. -/
theorem land_f {E : Nat → Int} {n b r j i : Nat} {m : Int} (hi : i < 512 * b) (h1 : ∀ k, i < k → k ≤ 512 * b → m < E k) (hr : FirstB E n b m r) : (∀ k, i < k → k ≤ 512 * r → m < E k) ∧ ∃ k, 512 * r < k ∧ k ≤ min (512 * (r + 1)) n ∧ E k ≤ m := by
  have h2 : ∀ k, i < k → k ≤ 512 * r → m < E k := fun k p q => by
    rcases Nat.lt_or_ge (512 * b) k with x | x
    · have hx := hr.none_ ((k - 1) / 512) (by omega) (by omega)
      rcases Int.lt_or_le m (E k) with y | y
      · exact y
      · exact absurd ⟨k, by omega, by have := hr.lt; omega, y⟩ hx
    · exact h1 k p x
  refine ⟨h2, ?_⟩
  obtain ⟨k, k1, k2, k3⟩ := hr.has
  refine ⟨k, ?_, k2, k3⟩
  rcases Nat.lt_or_ge (512 * r) k with x | x
  · exact x
  · have := h2 k (by have := hr.le; omega) x; omega
theorem land_b {E : Nat → Int} {n b r a : Nat} {m : Int} (hb : 512 * (b + 1) ≤ n) (ha : 512 * (b + 1) < a) (h1 : ∀ k, 512 * (b + 1) ≤ k → k < a → m < E k) (hr : LastB E n b m r) : (∀ k, 512 * (r + 1) ≤ k → k < a → m < E k) ∧ ∃ k, 512 * r ≤ k ∧ k < 512 * (r + 1) ∧ E k ≤ m := by
  have hrl := hr.le
  have h2 : ∀ k, 512 * (r + 1) ≤ k → k < a → m < E k := fun k p q => by
    rcases Nat.lt_or_ge k (512 * (b + 1)) with x | x
    · have hx := hr.none_ (k / 512) (by omega) (by omega)
      rcases Int.lt_or_le m (E k) with y | y
      · exact y
      · exact absurd ⟨k, by omega, by omega, y⟩ hx
    · exact h1 k x q
  refine ⟨h2, ?_⟩
  obtain ⟨k, k1, k2, k3⟩ := hr.has
  refine ⟨k, k1, ?_, k3⟩
  rcases Nat.lt_or_ge k (512 * (r + 1)) with x | x
  · exact x
  · have := h2 k x (by omega); omega
set_option maxHeartbeats 4000000 in
theorem seek_f (i : Nat) (m : Int) (h : PAt w p g V n true q) (hB : Bal (exc V) n) (hi : i < n) (hm : 0 ≤ m) (hq : q ≤ 999000) :
    Calls Tryd.prog 32 #[.pointer (some ⟨p, 0, none⟩), .int .i64 (i : Int), .int .i64 1, .int .i64 m] w (SeekF w p g V n q i m) := by
  have hn := h.n9
  have S1 := Lib.hid (scan_f p g V n q true w i m h hB hi hm (by omega))
  have HB := Lib.hid hB
  clear h hB
  go_enter Tryd.func32, Tryd.ntmps32
  go_wp2_with fail
  refine S1.out.mono ?_
  rintro e w2 ⟨h2, m2, j, ⟨rfl, hf⟩ | ⟨rfl, hj, hjn, hab⟩⟩
  · have H2 := Lib.hid h2
    have M2 := Lib.hid m2
    have HF := Lib.hid hf
    clear h2 m2 hf S1
    go_wp2_with fail
    go_ret
    exact ⟨H2.out.le (by omega), M2.out, j, rfl, HF.out⟩
  · obtain ⟨b, hb⟩ : ∃ b, i / 512 + 1 = b := ⟨_, rfl⟩
    rw [hb] at hj
    have hib : i < 512 * b := by omega
    subst hj
    have LP := Lib.hid (leap_f p g V n (q + 1) w2 b m h2 HB.out hjn hm (by omega))
    have H2 := Lib.hid h2
    have M2 := Lib.hid m2
    have HAB := Lib.hid hab
    obtain ⟨o, ho⟩ : ∃ o, 512 * b = o := ⟨_, rfl⟩
    have HO := Lib.hid ho
    rw [ho] at LP hjn hib ⊢
    clear h2 m2 hab S1 hb ho
    go_wp2_with fail
    refine LP.out.mono ?_
    rintro e w3 ⟨h3, m3, r, rfl, hr⟩
    have hrn := hr.lt
    have hrb := hr.le
    obtain ⟨l1, l2⟩ := land_f (j := 0) (by rw [HO.out]; exact hib) HAB.out hr
    have S2 := Lib.hid (scan_f p g V n (q + 2) true w3 (512 * r) m h3 HB.out hrn hm (by omega))
    rw [show ((512 * r : Nat) : Int) = (r : Int) * 512 by omega] at S2
    have H3 := Lib.hid h3
    have M3 : Hid (Mod (fun i => i = g) w w3) := M2.out.trans m3 fun _ _ h => h
    have L1 := Lib.hid l1
    have L2 := Lib.hid l2
    have hir : i ≤ 512 * r := by have := HO.out; omega
    clear h3 m3 hr l1 l2 LP M2 H2
    go_wp2_with fail
    refine S2.out.mono ?_
    rintro e w4 ⟨h4, m4, j, ⟨rfl, hf⟩ | ⟨rfl, hj, hjn', hab⟩⟩
    · have H4 := Lib.hid h4
      have M4 : Hid (Mod (fun i => i = g) w w4) := M3.out.trans m4 fun _ _ h => h
      have HF := Lib.hid (hf.on hir L1.out)
      clear h4 m4 hf S2
      go_wp2_with fail
      go_ret
      exact ⟨H4.out, M4.out, j, rfl, HF.out⟩
    · exfalso
      obtain ⟨k, k1, k2, k3⟩ := L2.out
      have := hab k k1 (by omega)
      omega
set_option maxHeartbeats 4000000 in
theorem seek_b (a : Nat) (m : Int) (h : PAt w p g V n true q) (ha : 0 < a) (han : a ≤ n) (hm : 0 ≤ m) (hq : q ≤ 999000) :
    Calls Tryd.prog 32 #[.pointer (some ⟨p, 0, none⟩), .int .i64 (a : Int), .int .i64 (-1), .int .i64 m] w (SeekB w p g V n q a m) := by
  have hn := h.n9
  have S1 := Lib.hid (scan_b p g V n q true w a m h ha han hm (by omega))
  clear h
  go_enter Tryd.func32, Tryd.ntmps32
  go_wp2_with fail
  refine S1.out.mono ?_
  rintro e w2 ⟨h2, m2, j, ⟨rfl, hf⟩ | ⟨rfl, hj, hjn, hab⟩⟩
  · have H2 := Lib.hid h2
    have M2 := Lib.hid m2
    have HF := Lib.hid hf
    clear h2 m2 hf S1
    go_wp2_with fail
    go_ret
    exact ⟨H2.out.le (by omega), M2.out, j, rfl, HF.out⟩
  · obtain ⟨b, hb⟩ : ∃ b, (a - 1) / 512 = b + 1 := ⟨(a - 1) / 512 - 1, by omega⟩
    rw [hb] at hj
    have hib : 512 * (b + 1) < a := by omega
    subst hj
    have LP := Lib.hid (leap_b p g V n (q + 1) w2 b m h2 (by omega) hm (by omega))
    have H2 := Lib.hid h2
    have M2 := Lib.hid m2
    have HAB := Lib.hid hab
    obtain ⟨o, ho⟩ : ∃ o, 512 * (b + 1) = o := ⟨_, rfl⟩
    have HO := Lib.hid ho
    rw [ho] at LP hib ⊢
    clear h2 m2 hab S1 hb ho
    go_wp2_with fail
    refine LP.out.mono ?_
    rintro e w3 ⟨h3, m3, r, rfl, hr⟩
    have hrb := hr.le
    have hrn : 512 * (r + 1) ≤ n := by have := HO.out; omega
    obtain ⟨l1, l2⟩ := land_b (by have := HO.out; omega) (by rw [HO.out]; exact hib) HAB.out hr
    have S2 := Lib.hid (scan_b p g V n (q + 2) true w3 (512 * (r + 1)) m h3 (by omega) hrn hm (by omega))
    rw [show ((512 * (r + 1) : Nat) : Int) = ((r : Int) + 1) * 512 by omega] at S2
    have H3 := Lib.hid h3
    have M3 : Hid (Mod (fun i => i = g) w w3) := M2.out.trans m3 fun _ _ h => h
    have L1 := Lib.hid l1
    have L2 := Lib.hid l2
    have hir : 512 * (r + 1) ≤ a := by have := HO.out; omega
    clear h3 m3 hr l1 l2 LP M2 H2
    go_wp2_with fail
    refine S2.out.mono ?_
    rintro e w4 ⟨h4, m4, j, ⟨rfl, hf⟩ | ⟨rfl, hj, hjn', hab⟩⟩
    · have H4 := Lib.hid h4
      have M4 : Hid (Mod (fun i => i = g) w w4) := M3.out.trans m4 fun _ _ h => h
      have HF := Lib.hid (hf.on hir L1.out)
      clear h4 m4 hf S2
      go_wp2_with fail
      go_ret
      exact ⟨H4.out, M4.out, j, rfl, HF.out⟩
    · exfalso
      obtain ⟨k, k1, k2, k3⟩ := L2.out
      have := hab k (by omega) (by omega)
      omega
end
end Go.Proofs.YtdpejjokdncfnaaDoor
