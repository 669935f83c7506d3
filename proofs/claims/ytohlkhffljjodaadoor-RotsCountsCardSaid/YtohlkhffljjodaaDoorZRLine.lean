/- A line read as numbers. -/
import Derived.Test.YtohlkhffljjodaaDoorZRSplit
import Derived.Test.YtohlkhffljjodaaDoorZRIn
import Derived.Test.YtohlkhffljjodaaDoorZCloneI
namespace Go.Proofs.YtohlkhffljjodaaDoor
open Go.RowKit
set_option linter.unusedVariables false
set_option maxRecDepth 20000

/-- All of them as numbers, if they are numbers. -/
def allNum : List (List Int) → Option (List Int)
  | [] => some []
  | x :: r => match numR x with
    | none => none
    | some v => (allNum r).map (v :: ·)
theorem allNum_none : ∀ (ls : List (List Int)) (k : Nat), k < ls.length → numR (ls.getD k []) = none → allNum ls = none := by
  intro ls
  induction ls with
  | nil => intro k hk; simp at hk
  | cons x r ih =>
    intro k hk h
    unfold allNum
    cases k with
    | zero => simp at h; rw [h]
    | succ k =>
      cases numR x with
      | none => rfl
      | some v =>
        simp only
        rw [ih k (by simpa using hk) (by simpa using h)]; rfl
theorem allNum_some : ∀ (ls : List (List Int)) (r : List Int), r.length = ls.length → (∀ j, j < ls.length → numR (ls.getD j []) = some (r.getD j 0)) → allNum ls = some r := by
  intro ls
  induction ls with
  | nil => intro r hr _; rw [List.eq_nil_of_length_eq_zero hr]; rfl
  | cons x ls ih =>
    intro r hr h
    cases r with
    | nil => simp at hr
    | cons v r =>
      have h0 := h 0 (by simp)
      simp at h0
      unfold allNum
      rw [h0]
      simp only
      rw [ih r (by simpa using hr) fun j hj => by simpa using h (j + 1) (by simpa using hj)]; rfl
theorem splitL_le (c : Int) : ∀ l, ∀ x ∈ splitL c l, x.length ≤ l.length := by
  intro l
  induction l with
  | nil => intro x hx; simp [splitL] at hx; subst hx; simp
  | cons b l ih =>
    intro x hx
    unfold splitL at hx
    split at hx
    · rcases List.mem_cons.1 hx with rfl | hx
      · simp
      · have := ih x hx; simp; omega
    · cases hs : splitL c l with
      | nil => exact absurd hs (splitL_ne c l)
      | cons y r =>
        rw [hs] at hx
        rcases List.mem_cons.1 hx with rfl | hx
        · have := ih y (by rw [hs]; simp); simp; omega
        · have := ih x (by rw [hs]; simp [hx]); simp; omega
/-- The numbers of a line, if it is one. -/
def rowR (l : List Int) : Option (List Int) := allNum (splitL 32 l)
theorem own_lowR {w : World} {base base' : Nat} {e : TypeId} {size n : Nat} {v : Value} {xs : List Value} (h : w.ownsRow base e size v n xs) (hb : base' ≤ base) : w.ownsRow base' e size v n xs :=
  ⟨h.1, h.2.imp id fun ⟨g, cap, cur, hv, h1, rest⟩ => ⟨g, cap, cur, hv, Nat.le_trans hb h1, rest⟩⟩
def RowPost (w : World) (o : Option (List Int)) (e : Ending) (w' : World) : Prop :=
  Below w.heap.size w w' ∧ match o with
  | none => e = .returned (.tuple #[.slice none 0 0, .bool false])
  | some r => ∃ A c, e = .returned (.tuple #[.slice A r.length c, .bool true]) ∧ w'.ownsRow w.heap.size 3 1 (.slice A r.length c) r.length (I64 r)
set_option maxHeartbeats 4000000 in
theorem numbers_p (A : Option Addr) (n c B : Nat) (l : List Int) (m : Int) (w : World) (h : Rd w B A n (Z8 l)) (hl8 : Byt l) (hnc : n ≤ c) (hc : c ≤ maxLen) (hA : A = none → c = 0) (hs : n < 4294967281) (hB : B ≤ w.heap.size)
    (hm : w.cell? ⟨0, 0, none⟩ = some (.int .i64 m)) :
    Calls Tryd.prog 46 #[.slice A n c] w (RowPost w (rowR l)) := by
  obtain ⟨i0, hi0, hz0, hz1, hz2⟩ := info_parts info_int
  have hln : l.length = n := by rw [← h.len, Z8_len]
  have b0 := (Below.refl w.heap.size w).alloc (Nat.le_refl _) (.cells #[.int .u8 32] 5)
  have SP := Lib.hid (split_p A n c B w.heap.size l 32 m (w.alloc (.cells #[.int .u8 32] 5)) (h.alloc _) hl8 hnc hc hA hs (by omega) (by have := (Blk.new w 5 #[.int .u8 32]).cell 0; rw [this]; rfl)
    ((b0.cell (p := ⟨0, 0, none⟩) (World.block_lt_of_cell? _ _ hm)).trans hm))
  have B0 := Lib.hid b0
  have H8 := Lib.hid hl8
  clear b0 h hl8
  go_enter Tryd.func46, Tryd.ntmps46
  go_wp2_with fail
  refine SP.out.mono ?_
  rintro e w2 ⟨vs, q, rfl, hw2, hp, hvl⟩
  have b2 : Below w.heap.size w w2 := by
    rw [hw2]
    exact below_draws (B0.out.alloc (by simp) _) q
  have r2 : Rd w2 w2.heap.size (some ⟨(w.alloc (.cells #[.int .u8 32] 5)).heap.size, 0, none⟩) vs.length vs := by
    rw [hw2]
    exact ((Rd.new _ 22 vs.toArray vs.length vs (by simp) (by simp)).drewN q).up (by simp [World.drewN])
  have p2 : Pieces w2 B vs (splitL 32 l) := by
    rw [hw2]
    exact hp.mod (below_draws ((Below.refl B _).alloc (by simp; omega) _) q)
  have hls := p2.len
  have P2 := Lib.hid p2
  have R2 := Lib.hid r2
  have B2 := Lib.hid b2
  have HLS := Lib.hid hls
  clear hw2 hp p2 r2 b2 SP B0 hls
  generalize (w.alloc (.cells #[.int .u8 32] 5)).heap.size = g2 at *
  obtain ⟨K, hK⟩ : ∃ K, K = vs.length := ⟨_, rfl⟩
  rw [← hK] at R2 HLS hvl ⊢
  have HK := Lib.hid hK
  clear hK
  have hK2 : K ≤ 4294967282 := by omega
  clear hvl
  go_wp2_with fail
  go_loopw [4, 13] (fun x i wr => ∃ (k : Nat) (r : List Int) (A' : Option Addr) (c' : Nat), i = .int .i64 (k : Int) ∧ x = .slice A' k c' ∧ k ≤ K ∧ Hid (∀ j, j < k → numR ((splitL 32 l).getD j []) = some (r.getD j 0)) ∧ Hid (wr.ownsRow w2.heap.size 3 1 (.slice A' k c') k (I64 r)) ∧ Hid (Below w2.heap.size w2 wr)) (fun _ i _ => K - (intOf i).toNat)
  case atStart => exact ⟨0, [], none, 0, rfl, rfl, by omega, fun j hj => absurd hj (by omega), World.ownsRow_nil _ _ _ _, Below.refl _ _⟩
  case round =>
    obtain ⟨k, r, A', c', rfl, rfl, hk, hr, hown, hbel⟩ := hrel
    by_cases hlt : k < K
    · have hltI : (k : Int) < (K : Int) := by omega
      obtain ⟨A3, n3, c3, ev, q1, q2, q3, q4⟩ := P2.out.at_ k (by rw [← HK.out]; exact hlt)
      have t1 : wr.cell? ⟨g2, k, none⟩ = some (.slice A3 n3 c3) := by
        obtain ⟨b, o, e, hb, hc⟩ := R2.out.at_ (by omega)
        simp only [Option.some.injEq, Addr.mk.injEq, and_true] at e
        obtain ⟨rfl, rfl⟩ := e
        have := hc k (by rw [← HK.out]; exact hlt)
        rw [Nat.zero_add] at this
        rw [hbel.out.cell (p := ⟨g2, k, none⟩) hb, this]
        rw [List.getElem?_eq_getElem (by rw [← HK.out]; exact hlt)] at ev
        exact ev
      have hin : (splitL 32 l).getD k [] ∈ splitL 32 l := by
        rw [List.getD_eq_getElem?_getD, List.getElem?_eq_getElem (by rw [← HLS.out]; exact hlt)]
        exact List.getElem_mem _
      have hn3 : n3 ≤ 4294967296 := by
        have e1 := splitL_le 32 l _ hin
        have e2 := q4.len
        rw [Z8_len] at e2
        omega
      have NP := Lib.hid (number_p A3 n3 c3 B ((splitL 32 l).getD k []) wr (q4.below (hbel.out.mono (by have := B2.out.size; omega))) (splitL_byt 32 l H8.out _ hin) hn3)
      have NN : Hid (numR ((splitL 32 l).getD k []) = none → rowR l = none) := fun z => allNum_none _ k (by rw [← HLS.out]; exact hlt) z
      clear ev q4 hin hn3
      cases hv : numR ((splitL 32 l).getD k []) with
      | none =>
        rw [hv] at NP
        have HR := Lib.hid (NN.out hv)
        clear hv
        go_wp2_with fail
        refine NP.out.mono ?_
        rintro e w3 ⟨rfl, rfl⟩
        unfold optV
        go_wp2_with fail
        go_ret2
        exact ⟨B2.out.trans (hbel.out.mono B2.out.size), by rw [HR.out]; rfl⟩
      | some v =>
        rw [hv] at NP
        have HV := Lib.hid hv
        clear hv
        have bA := (Below.refl wr.heap.size wr).alloc (Nat.le_refl _) (.cells #[.int .i64 v] 3)
        have ownA := own_below hown.out bA
        have rA := Rd.new wr 3 #[.int .i64 v] 1 (I64 [v]) (by simp [I64]) (by simp)
        have e1 : k + 1 ≤ maxLen := by simp only [maxLen]; omega
        have e2 : (k + 1) * 8 ≤ 140737488355328 := by omega
        have e3 : w2.heap.size ≤ (wr.alloc (.cells #[.int .i64 v] 3)).heap.size := by have := hbel.out.size; simp; omega
        go_wp2_with fail
        refine NP.out.mono ?_
        rintro e w3 ⟨rfl, rfl⟩
        unfold optV
        go_wp2_with (first
          | (at_builtin; go_must (refine wpList_append_rd _ rfl _ _ 24 rfl w2.heap.size 3 i0 (.int .i64 0) 8 Tryd.underlying24 hi0 hz0 hz1 hz2 rfl (.slice A' k c') k (I64 r) rfl ownA (wr.heap.size + 1) (some ⟨wr.heap.size, 0, none⟩) 1 1 (I64 [v]) rfl rA (I64_one _) e1 e2 e3 ?_)))
        intro A7 c7 w7 hc7 hm7 hown7 hg7 _
        have O7 : Hid (w7.ownsRow w2.heap.size 3 1 (.slice A7 (k + 1) c7) (k + 1) (I64 (r ++ [v]))) := by
          have := hown7
          rw [← I64_append] at this
          exact this
        have B7 : Hid (Below w2.heap.size w2 w7) := (hbel.out.trans (bA.mono hbel.out.size)).trans (Below.appended ownA hg7 e3)
        have hrl := own_lenI hown.out
        have hv7 : Hid (∀ j, j < k + 1 → numR ((splitL 32 l).getD j []) = some ((r ++ [v]).getD j 0)) := by
          intro j hj
          by_cases e : j = k
          · subst e
            rw [HV.out, List.getD_eq_getElem?_getD, List.getElem?_append_right (by omega), hrl, Nat.sub_self]; rfl
          · rw [hr.out j (by omega), List.getD_eq_getElem?_getD, List.getD_eq_getElem?_getD, List.getElem?_append_left (by omega)]
        clear bA ownA rA e1 e2 e3 hown7 hg7 hrl NP NN
        go_wp2_with fail
        go_roundw
        case rel => exact ⟨k + 1, r ++ [v], A7, c7, by go_num, rfl, by omega, hv7.out, O7.out, B7.out⟩
        case measure => simp [intOf]; omega
    · obtain rfl : k = K := by omega
      have hrl := own_lenI hown.out
      have HR := Lib.hid (allNum_some (splitL 32 l) r (by rw [hrl, HLS.out]) (fun j hj => hr.out j (by rw [HLS.out]; exact hj)))
      go_wp2_with fail
      go_ret2
      refine ⟨B2.out.trans (hbel.out.mono B2.out.size), ?_⟩
      unfold rowR
      rw [HR.out]
      subst hrl
      exact ⟨A', c', rfl, own_lowR hown.out B2.out.size⟩
end Go.Proofs.YtohlkhffljjodaaDoor
