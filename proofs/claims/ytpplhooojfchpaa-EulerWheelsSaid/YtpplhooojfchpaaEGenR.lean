/- The document's Genus; a tree's edges. -/
import Derived.Test.YtpplhooojfchpaaEPartsW
import Derived.Test.YtpplhooojfchpaaESumM
import Derived.Test.YtpplhooojfchpaaEDblW
namespace Go.Proofs.Ytpplhooojfchpaa
set_option maxRecDepth 20000
open Go.RowKit
set_option linter.unusedVariables false
set_option maxHeartbeats 4000000 in
theorem regenus_p (A0 : Option Addr) (c0 : Nat) (l b : List Nat) (root : Int) (lone : Nat) (w : World) (h : Rd w w.heap.size A0 l.length (I64 (ofN l))) (hinv0 : Inv l b) (hev : l.length % 2 = 0) (hle : l.length ≤ 100000) (hln : lone ≤ 65536) :
    Calls Try.prog 20 #[.agg #[.slice A0 l.length c0, .int .i64 root, .int .i64 (lone : Int)]] w fun e w' => e = .returned (.int .i64 (genusN l : Int)) ∧ Below w.heap.size w w' := by
  have hinv : Inv l b ∧ Inv (phiL l) (phiB l b) := ⟨hinv0, phi_inv hinv0 hev⟩
  have hb0 := (Below.refl w.heap.size w).alloc (Nat.le_refl _) (.cells #[.slice A0 l.length c0, .int .i64 root, .int .i64 (lone : Int)] 27)
  have HG := Lib.hid (fun j => pgen_is hinv.1 hev hinv.2 j)
  have HGT := Lib.hid (fun k => genusTo_le hinv.1 hev hinv.2 k)
  have PT := Lib.hid (reparts_p A0 c0 l b root lone _ ((h.below hb0).lt) hinv0 hev hle hln)
  have HB0 := Lib.hid hb0
  have HINF := Lib.hid info_qart5
  have hpn := pN_le l
  have HEND := Lib.hid (genusTo_lone l lone)
  have HN0 : Hid (genusTo l 0 = 0) := rfl
  generalize hc : pN l + lone = c at *
  have hcl : c ≤ 200000 := by omega
  have HGTc : Hid (∀ k, k ≤ c → genusTo l k ≤ 30000000000) := fun k hk => by
    have h1 := HGT.out k
    have h2 : k * l.length ≤ 200000 * 131072 := Nat.mul_le_mul (by omega) (by omega)
    omega
  have hs0 : w.heap.size ≤ (w.alloc (.cells #[.slice A0 l.length c0, .int .i64 root, .int .i64 (lone : Int)] 27)).heap.size := by simp
  clear h hev hinv hc hpn HGT hinv0 hb0
  go_enter Try.func20, Try.ntmps20
  go_wp2_with fail
  refine PT.out.mono ?_
  rintro e w1 ⟨A, c3, rfl, hc3, hm3, hown, hb1⟩
  have HO := Lib.hid hown
  have HB1 := Lib.hid (HB0.out.trans (hb1.mono hs0))
  have hs1 := HB1.out.size
  clear hown hb1 PT
  go_wp2_with fail
  go_loopw [3, 9] (fun s3 i wr => ∃ (k : Nat), k ≤ c ∧ s3 = .int .i64 (genusTo l k : Int) ∧ i = .int .i64 (k : Int) ∧ Hid (Below w1.heap.size w1 wr)) (fun _ i _ => c - (intOf i).toNat)
  case atStart => exact ⟨0, by omega, by rw [HN0.out]; rfl, rfl, Below.refl _ _⟩
  case round =>
    obtain ⟨k, hk, rfl, rfl, HB⟩ := hrel
    by_cases hkc : k < c
    · obtain ⟨g3, rfl, hg3, hg3'⟩ := own_some5 HO.out (show 0 < c by omega)
      have hO := own_below HO.out HB.out
      have cl : ∀ f, f < 5 → wr.cell? ⟨g3, k * 5 + f, none⟩ = some (.int .i64 (pcL l (5 * k + f))) := fun f hf => by
        rw [own_cell5 hO _ (by omega), Nat.mul_comm k 5, partsC_get _ _ _ _ hkc hf]
      have c0 := cl 0 (by omega)
      have c1 := cl 1 (by omega)
      have c2 := cl 2 (by omega)
      have c3' := cl 3 (by omega)
      have c4 := cl 4 (by omega)
      rw [(HG.out k).1] at c4
      rw [Nat.add_zero, Nat.add_zero] at c0
      have hpl := (HG.out k).2
      have hgt := HGTc.out k (by omega)
      have HNX := Lib.hid (genusTo_next l k)
      have hdk : decide (k < c) = true := by rw [decide_eq_true_iff]; exact hkc
      have hsw := HB.out.size
      generalize pcL l (5 * k) = v0 at c0
      generalize pcL l (5 * k + 1) = v1 at c1
      generalize pcL l (5 * k + 2) = v2 at c2
      generalize pcL l (5 * k + 3) = v3 at c3'
      generalize pgen l k = v4 at *
      generalize hgk : genusTo l k = G at *
      clear cl hO hgk
      go_wp2_with fail
      go_roundw
      case rel => exact ⟨k + 1, by omega, by rw [HNX.out]; go_num, by go_num, HB.out.alloc hsw _⟩
      case measure => simp [intOf]; omega
    · obtain rfl : k = c := by omega
      have HE : Hid (genusTo l k = genusN l) := HEND.out
      go_wp2_with fail
      go_ret
      exact ⟨by rw [HE.out]; rfl, HB1.out.trans (HB.out.mono hs1)⟩
/-! ### edges that are neither loops nor doubles -/
section
variable {l b : List Nat}
theorem leads_cls (h : Inv l b) : cls (Orb (sgL l)) (fun _ => True) l.length = metB l := by
  rw [← num_leads h]
  unfold cls num
  congr 1
  apply List.filter_congr
  intro d hd
  have hd : d < l.length := by simpa using hd
  rw [decide_eq_decide]
  have e := leads_least h (show d ≤ l.length by omega)
  exact ⟨fun x => e.2 x.2, fun x => ⟨trivial, e.1 x⟩⟩
theorem name_orb (h : Inv l b) {i j : Nat} (hi : i < l.length) (hj : j < l.length) (e : nameOf l i = nameOf l j) : Orb (sgL l) i j := by
  have hq := (sgL_pf h).eqv
  have key : ∀ x, x < l.length → Orb (sgL l) (lead l x) x := fun x hx => by
    obtain ⟨h1, h2, h3⟩ := lead_is h hx
    obtain ⟨t, et⟩ := (mem_orb h (by omega)).1 h3
    exact ⟨t, by rw [sgL_it]; exact et⟩
  have hl : lead l i = lead l j := by
    unfold nameOf at e
    obtain ⟨a1, a2, _⟩ := lead_is h hi
    obtain ⟨b1, b2, _⟩ := lead_is h hj
    rcases Nat.lt_trichotomy (lead l i) (lead l j) with c | c | c
    · have := leads_lt l _ _ a2 c; omega
    · exact c
    · have := leads_lt l _ _ b2 c; omega
  have li := (lead_is h hi).1
  have h1 := key i hi
  have h2 := key j hj
  rw [← hl] at h2
  exact hq.trans _ _ _ hi (by omega) hj (hq.symm _ _ (by omega) hi h1) h2
/-- Good edges: no loops, and none ahead between the same two. -/
def GoodE (l : List Nat) (e : Nat) : Prop := lowE l e ≠ highE l e ∧ ¬ 0 < prN l (lowE l e) (highE l e) e
theorem num_has {Q : Nat → Prop} : ∀ {k : Nat}, 0 < num Q k → ∃ e, e < k ∧ Q e
  | 0, h => by simp [num] at h
  | k + 1, h => by
    by_cases q : Q k
    · exact ⟨k, by omega, q⟩
    · rw [(num_next Q k).2 q] at h
      obtain ⟨e, h1, h2⟩ := num_has h
      exact ⟨e, by omega, h2⟩
theorem good_join (h : Inv l b) (he : l.length % 2 = 0) {e : Nat} (hE : e < l.length / 2) (hg : ¬ GoodE l e) : gk (sgL l) e (2 * e) (2 * e + 1) := by
  have hpf := sgL_pf h
  have hn : l.length = 2 * (l.length / 2) := by omega
  have hq := gk_eqv hpf hn e (by omega)
  have lift : ∀ i j, i < l.length → j < l.length → nameOf l i = nameOf l j → gk (sgL l) e i j := fun i j hi hj c => gk_mono _ (Nat.zero_le e) (show gk (sgL l) 0 i j from name_orb h hi hj c)
  by_cases c : lowE l e = highE l e
  · refine lift _ _ (by omega) (by omega) ?_
    unfold lowE highE at c
    omega
  · have c2 : 0 < prN l (lowE l e) (highE l e) e := Classical.byContradiction fun x => hg ⟨c, x⟩
    obtain ⟨f, hf, h1, h2⟩ := num_has c2
    have hj := gk_edge hpf f e hf
    unfold lowE at h1
    unfold highE at h2
    have hc : (nameOf l (2 * f) = nameOf l (2 * e) ∧ nameOf l (2 * f + 1) = nameOf l (2 * e + 1)) ∨ (nameOf l (2 * f) = nameOf l (2 * e + 1) ∧ nameOf l (2 * f + 1) = nameOf l (2 * e)) := by omega
    rcases hc with ⟨a1, a2⟩ | ⟨a1, a2⟩
    · exact hq.trans _ (2 * f + 1) _ (by omega) (by omega) (by omega) (hq.trans _ (2 * f) _ (by omega) (by omega) (by omega) (lift _ _ (by omega) (by omega) a1.symm) hj) (lift _ _ (by omega) (by omega) a2)
    · exact hq.trans _ (2 * f) _ (by omega) (by omega) (by omega) (hq.trans _ (2 * f + 1) _ (by omega) (by omega) (by omega) (lift _ _ (by omega) (by omega) a2.symm) (hq.symm _ _ (by omega) (by omega) hj)) (lift _ _ (by omega) (by omega) a1)
theorem edges_are (l : List Nat) : ∀ k, num (GoodE l) k + loopsN l k + dblN l k = k
  | 0 => rfl
  | k + 1 => by
    have ih := edges_are l k
    by_cases c : lowE l k = highE l k
    · have e1 := (loopsN_next l k).1 c
      have e2 : dblN l (k + 1) = dblN l k := (num_next _ k).2 fun x => x.1 c
      have e3 : num (GoodE l) (k + 1) = num (GoodE l) k := (num_next _ k).2 fun x => x.1 c
      omega
    · have e1 := (loopsN_next l k).2 c
      by_cases d : 0 < prN l (lowE l k) (highE l k) k
      · have e2 : dblN l (k + 1) = dblN l k + 1 := (num_next _ k).1 ⟨c, d⟩
        have e3 : num (GoodE l) (k + 1) = num (GoodE l) k := (num_next _ k).2 fun x => x.2 d
        omega
      · have e2 : dblN l (k + 1) = dblN l k := (num_next _ k).2 fun x => d x.2
        have e3 : num (GoodE l) (k + 1) = num (GoodE l) k + 1 := (num_next _ k).1 ⟨c, d⟩
        omega
/-- Of one part there are at most as many loops and doubles as edges more than a tree has. -/
theorem few_bad (h : Inv l b) (he : l.length % 2 = 0) : metB l + loopsN l (l.length / 2) + dblN l (l.length / 2) ≤ pN l + l.length / 2 := by
  have hpf := sgL_pf h
  have hn : l.length = 2 * (l.length / 2) := by omega
  have h1 := good_edges hpf hn (GoodE l) (fun e hE hg => good_join h he hE hg) (l.length / 2) (Nat.le_refl _)
  rw [leads_cls h] at h1
  have h2 := edges_are l (l.length / 2)
  have h3 : cls (gk (sgL l) (l.length / 2)) (fun _ => True) l.length = pN l := rfl
  omega
end
end Go.Proofs.Ytpplhooojfchpaa
