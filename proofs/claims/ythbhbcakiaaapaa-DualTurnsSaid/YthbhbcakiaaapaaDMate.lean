/- The mates of darts. -/
import Derived.Test.YthbhbcakiaaapaaDNamed
import Derived.Test.YthbhbcakiaaapaaPRef2
import Derived.Laws.BitsAllLaws
namespace Go.Proofs.Ythbhbcakiaaapaa
set_option maxRecDepth 20000
open Go.RowKit
set_option linter.unusedVariables false

def mateN (d : Nat) : Nat := d ^^^ 1
theorem mateN_eq (d : Nat) : mateN d = if d % 2 = 0 then d + 1 else d - 1 := by
  unfold mateN
  have h1 : (d ^^^ 1) / 2 = d / 2 := by rw [Nat.xor_div_two]; simp
  have h2 : (d ^^^ 1) % 2 = (d % 2 + 1) % 2 := by
    have h := @Nat.xor_mod_two_eq_one d 1
    by_cases hd : d % 2 = 1
    · have : ¬ (d ^^^ 1) % 2 = 1 := fun e => (h.1 e) (by simp [hd])
      omega
    · have : (d ^^^ 1) % 2 = 1 := h.2 (by simp [hd])
      omega
  split <;> omega
def mateL (n : Nat) : List Nat := (List.range n).map mateN
theorem mateL_len (n : Nat) : (mateL n).length = n := by simp [mateL]
theorem mateL_get (n i : Nat) (h : i < n) : (mateL n).getD i 0 = mateN i := by simp [mateL, List.getD_eq_getElem?_getD, h]
theorem mateN_lt {n i : Nat} (he : n % 2 = 0) (h : i < n) : mateN i < n := by rw [mateN_eq]; split <;> omega
theorem mateN_twice (i : Nat) : mateN (mateN i) = i := by
  rw [mateN_eq (mateN i), mateN_eq i]
  split <;> split <;> omega
theorem mateL_inv {n : Nat} (he : n % 2 = 0) : Inv (mateL n) (mateL n) := by
  refine ⟨rfl, fun i hi => ?_, fun i hi => ?_, fun i hi => ?_, fun i hi => ?_⟩ <;> rw [mateL_len] at * <;> rw [mateL_get n i hi]
  · exact mateN_lt he hi
  · exact mateN_lt he hi
  · rw [mateL_get n _ (mateN_lt he hi), mateN_twice]
  · rw [mateL_get n _ (mateN_lt he hi), mateN_twice]
theorem xor_one_i64 (d : Nat) (h : d < 9223372036854775808) : bits .xor .i64 (d : Int) 1 = ((mateN d : Nat) : Int) := by
  have hx : d ^^^ 1 < 2 ^ 63 := Nat.xor_lt_two_pow (by omega) (by decide)
  show IntKind.i64.wrap ((BitVec.ofInt 64 (d : Int) ^^^ BitVec.ofInt 64 ((1 : Nat) : Int)).toNat : Int) = _
  rw [BitVec.toNat_xor, ofInt_u64 d (by omega), ofInt_u64 1 (by decide), IntKind.wrap_i64]
  unfold mateN
  omega
theorem mate_p (d : Nat) (w : World) (hd : d ≤ 1000000) :
    Calls Try.prog 74 #[.int .i64 (d : Int)] w fun e w' => e = .returned (.int .i64 ((mateN d : Nat) : Int)) ∧ w = w' := by
  have hx := xor_one_i64 d (by omega)
  generalize mateN d = x at *
  go_enter Try.func74, Try.ntmps74
  go_wp2
  go_ret
  exact ⟨rfl, rfl⟩
def MatesPost (w : World) (n : Nat) (e : Ending) (w' : World) : Prop := ∃ p, e = .returned (.pointer (some ⟨p, 0, none⟩)) ∧ PermAt w' p (mateL n) (mateL n) ∧ Below w.heap.size w w'
set_option maxHeartbeats 2000000 in
theorem mates_p (n : Nat) (w : World) (hn : n ≤ 1000000) (he : n % 2 = 0) :
    Calls Try.prog 69 #[.int .i64 (n : Int)] w (MatesPost w n) := by
  obtain ⟨i0, hi0, hz0, hz1, hz2⟩ := info_parts info_int
  have hmk := run_make_one (P := Try.prog) 25 3 i0 (.int .i64 0) 8 Try.underlying25 hi0 hz0 hz1 hz2 rfl .i64 .i64 n (by omega) (by omega)
  have hown := own_made w 3 n (.int .i64 0) (by simp only [maxLen]; omega)
  have hown2 : (w.alloc (.cells (Array.replicate n (.int .i64 0)) 3)).ownsRow w.heap.size 3 1 (.slice (some ⟨w.heap.size, 0, none⟩) n n) n (I64 (List.replicate n 0)) := by
    rw [I64_replicate]; simpa using hown
  have HOWN := Lib.hid hown2
  clear hown2
  have HE := Lib.hid he
  clear hown he
  go_enter Try.func69, Try.ntmps69
  go_wp2_with fail
  go_loopw [11] (fun i wr => ∃ (k : Nat) (y : List Int), k ≤ n ∧ i = .int .i64 (k : Int) ∧ Hid (∀ j, j < k → y.getD j 0 = ((mateN j : Nat) : Int)) ∧ Hid (wr.ownsRow w.heap.size 3 1 (.slice (some ⟨w.heap.size, 0, none⟩) n n) n (I64 y)) ∧ Below w.heap.size w wr) (fun i _ => n - (intOf i).toNat)
  case atStart => exact ⟨0, _, by omega, rfl, fun j hj => absurd hj (by omega), HOWN.out, (Below.refl _ _).alloc (Nat.le_refl _) _⟩
  case round =>
    obtain ⟨k, y, hk, rfl, hy, how, hbl⟩ := hrel
    by_cases hlt : k < n
    · have MT := Lib.hid (mate_p k wr (by omega))
      have t1 := own_cellI how.out k hlt
      have f1 := how.out.frozenAt k
      have OS := Lib.hid (own_setI how.out k ((mateN k : Nat) : Int))
      have HY : Hid (∀ j, j < k + 1 → (y.set k ((mateN k : Nat) : Int)).getD j 0 = ((mateN j : Nat) : Int)) := fun j hj => by
        rw [getDI_set _ _ _ _ (by rw [own_lenI how.out]; exact hlt)]
        split
        · rename_i e; rw [e]
        · exact hy.out j (by omega)
      generalize y.set k ((mateN k : Nat) : Int) = y2 at *
      generalize mateN k = mk at *
      generalize y.getD k 0 = yk at *
      go_wp2_with fail
      refine MT.out.mono ?_
      rintro e w2 ⟨rfl, rfl⟩
      go_wp2_with fail
      go_roundw
      case rel => exact ⟨k + 1, y2, by omega, by go_num, HY.out, OS.out, hbl.setCell (Nat.le_refl _) _⟩
      case measure => simp [intOf]; omega
    · obtain rfl : k = n := by omega
      have hyl := own_lenI how.out
      have hyy : y = ofN (mateL k) := getDI_ext (by rw [hyl, ofN_len, mateL_len]) fun j hj => by
        rw [hyl] at hj
        rw [hy.out j hj, ofN_get, mateL_get k j hj]
      rw [hyy] at how
      have OF := Lib.hid (of_p (some ⟨w.heap.size, 0, none⟩) k k _ (ofN (mateL k)) wr (Rd.ofOwn how.out) hn)
      have HI := Lib.hid (mateL_inv HE.out)
      clear hyy hyl hy how
      go_wp2_with fail
      refine OF.out.mono ?_
      rintro e w3 ⟨hc, hb3⟩
      rcases hc with ⟨g, l', b', hl', rfl, hp, _⟩ | ⟨hng, _⟩
      · have hlm := ofN_inj hl'
        subst hlm
        have hbb := hp.1.unique HI.out
        rw [hbb] at hp
        have HP := Lib.hid hp
        have HB3 := Lib.hid hb3
        clear hp hb3 hbb hl' OF
        go_wp2_with fail
        go_ret
        exact ⟨g, rfl, HP.out, hbl.trans (HB3.out.mono hbl.size)⟩
      · exact absurd HI.out.good hng
end Go.Proofs.Ythbhbcakiaaapaa
