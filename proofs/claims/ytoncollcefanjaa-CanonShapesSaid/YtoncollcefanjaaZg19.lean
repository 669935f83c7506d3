/- The darts alike to one. What known turns take a dart to; a turn that is tried: mathematics. -/
import Derived.Test.YtoncollcefanjaaZCsSorted
import Derived.Test.YtoncollcefanjaaZg1
import Derived.Test.YtoncollcefanjaaZg4
import Derived.Test.YtoncollcefanjaaZg7
namespace Go.Proofs.Ytoncollcefanjaa
set_option maxRecDepth 100000
open Go.RowKit
set_option linter.unusedVariables false
set_option linter.unusedSimpArgs false
section
variable {l b : List Nat}
theorem kdL_num (hi : Inv l b) {d : Nat} (hd : d < l.length) : kdL l d = num (fun x => nameOf l x = nameOf l d) l.length := by
  have hn := name_lt hi hd
  rw [← sizes_len] at hn
  unfold kdL sizes at *
  rw [sizesTo_len] at hn
  rw [sizesTo_get _ _ _ _ hn]
  unfold cntN num
  congr 1
  apply List.filter_congr
  intro x _
  by_cases c : nameOf l x = nameOf l d <;> simp [c]
theorem turns_lt (hi : Inv l b) {d e : Nat} (hd : d < l.length) (t : TurnsTo l d e) : e < l.length := by
  obtain ⟨p, q, t⟩ := t
  rw [← t.root]; exact t.nam.lt hd
theorem kd_le (hi : Inv l b) {d e : Nat} (hd : d < l.length) (t : TurnsTo l d e) : kdL l d ≤ kdL l e := by
  have he := turns_lt hi hd t
  rw [kdL_num hi hd, kdL_num hi he]
  obtain ⟨p, q, t⟩ := t
  refine num_inj (sgL p) (fun x hx hn => ⟨t.nam.lt hx, ?_⟩) (fun x y hx hy _ _ e => t.nam.inc.inj x y hx hy e)
  rw [name_iff hi hx hd] at hn
  have := (cj_orb t.nam hi hx hd).2 hn
  rw [t.img, t.root] at this
  exact (name_iff hi (t.nam.lt hx) he).2 this
theorem kd_eq (hi : Inv l b) (he : l.length % 2 = 0) {d e : Nat} (hd : d < l.length) (t : TurnsTo l d e) : kdL l d = kdL l e :=
  Nat.le_antisymm (kd_le hi hd t) (kd_le hi (turns_lt hi hd t) ((turns_eqv hi he).symm d e hd (turns_lt hi hd t) t))
theorem turns_phi (hi : Inv l b) {d e : Nat} (t : TurnsTo l d e) : TurnsTo (phiL l) d e := by
  obtain ⟨p, q, t⟩ := t
  exact ⟨p, q, by rw [phiL_len]; exact t.nam, by rw [← cj_phi t.nam, t.img], t.root⟩
/-- What steps back, or to the mate, goes with every turn. -/
theorem turns_mate (hi : Inv l b) (he : l.length % 2 = 0) {d e : Nat} (hd : d < l.length) (t : TurnsTo l (mt d) e) : ∃ d', d' < l.length ∧ TurnsTo l d d' ∧ mt d' = e := by
  obtain ⟨p, q, t⟩ := t
  exact ⟨sgL p d, t.nam.lt hd, ⟨p, q, t.nam, t.img, rfl⟩, by rw [← t.nam.mt d hd, t.root]⟩
theorem turns_back (hi : Inv l b) (he : l.length % 2 = 0) {d e : Nat} (hd : d < l.length) (t : TurnsTo l (sgL b d) e) : ∃ d', d' < l.length ∧ TurnsTo l d d' ∧ sgL b d' = e := by
  obtain ⟨p, q, t⟩ := t
  have i2 := cj_inv t.nam hi
  rw [t.img] at i2
  have eb : cjL p q b = b := Inv.unique i2 hi
  have hlb : b.length = l.length := hi.len
  have := cj_at (l := b) (p := p) (q := q) (by rw [hlb]; exact t.nam) (i := d) (by rw [hlb]; exact hd)
  rw [eb, t.root] at this
  exact ⟨sgL p d, t.nam.lt hd, ⟨p, q, t.nam, t.img, rfl⟩, this⟩
end
theorem nodup_getD {L : List Nat} (h : ∀ i j, i < j → j < L.length → L.getD i 0 ≠ L.getD j 0) : L.Nodup := by
  rw [List.Nodup, List.pairwise_iff_getElem]
  intro i j hi hj hij
  have := h i j hij hj
  rwa [List.getD_eq_getElem?_getD, List.getD_eq_getElem?_getD, List.getElem?_eq_getElem hi, List.getElem?_eq_getElem hj] at this
theorem Srt.atL_nodup {n : Nat} {D P O F Z : List Nat} (S : Srt n D P O F Z) {f z : Nat} (h : f + z ≤ n) : (atL D f z).Nodup := by
  have hl := atL_len D f z (by rw [S.dl]; exact h)
  refine nodup_getD fun i j hij hj e => ?_
  rw [hl] at hj
  rw [atL_get _ _ _ _ (by omega), atL_get _ _ _ _ hj] at e
  have := congrArg (fun x => P.getD x 0) e
  rw [S.pd (by omega), S.pd (by omega)] at this
  omega
/-- The sorts, while they are parted. -/
structure Alk (w W : World) (Fr : Nat → Prop) (l : List Nat) (g n gD gP gO cD cP cO : Nat) (D P O F Z C : List Nat) : Prop where
  m : SrtM W Fr g n gD gP gO cD cP cO D P O F Z C
  s : Srt n D P O F Z
  c : Cho n P O F Z C (fun _ => False)
  fi : ∀ x y, x < n → y < n → TurnsTo l x y → O.getD x 0 = O.getD y 0
  be : Below w.heap.size w W
def AlikePost (w : World) (l : List Nat) (r : Nat) (e : Ending) (w' : World) : Prop :=
  ∃ A m c ds, e = .returned (.slice A m c) ∧ Rd w' w'.heap.size A m (I64 (ofN ds)) ∧ m ≤ l.length ∧ (∀ d ∈ ds, d < l.length) ∧ (∀ d, d < l.length → TurnsTo l r d → d ∈ ds) ∧ (∀ k, inBlk A k → w.heap.size ≤ k) ∧ Below w.heap.size w w'
set_option maxHeartbeats 8000000 in
theorem calike_p (g : Nat) (l b : List Nat) (root lone : Int) (r : Nat) (w : World) (h : MapAt w g l b root lone) (hi : Inv l b) (hr : r < l.length) :
    Calls Try.prog 48 #[.pointer (some ⟨g, 0, none⟩), .int .i64 (r : Int)] w (AlikePost w l r) := by
  have HM : Hid (∀ w', Below w.heap.size w w' → MapAt w' g l b root lone) := fun w' m => h.below m
  have SP := Lib.hid (csorted_p g l b root lone w h hi (by omega))
  have hle := h.2.1
  have HI := Lib.hid hi
  have HEV : Hid (l.length % 2 = 0) := h.1.1
  have BK : Hid (∀ (W : World), Below w.heap.size w W → ∀ d : Nat, d < l.length → Calls Try.prog 65 #[.pointer (some ⟨g, 0, none⟩), .int .i64 (d : Int)] W fun e w' => e = .returned (.int .i64 ((sgL b d : Nat) : Int)) ∧ Below W.heap.size W w') := fun W m d hd => mback_in g l b root lone d W (HM.out W m) hd
  have MT : Hid (∀ (W : World), Below w.heap.size w W → ∀ d : Nat, d < l.length → Calls Try.prog 55 #[.pointer (some ⟨g, 0, none⟩), .int .i64 (d : Int)] W fun e w' => e = .returned (.int .i64 ((mt d : Nat) : Int)) ∧ Below W.heap.size W w') := fun W m d hd => by
    have := mate_in g l b root lone d W (HM.out W m) hd
    rwa [mt_mateN] at this
  obtain ⟨n, hn⟩ : ∃ n, n = l.length := ⟨_, rfl⟩
  rw [← hn] at hle hr HEV BK MT
  have HN := Lib.hid hn
  have PB : Hid (∀ (Fr : Nat → Prop) (g2 gD gP gO cD cP cO : Nat) (D P O F Z C : List Nat) (A : Option Addr) (m c : Nat) (ds : List Nat) (W : World), Alk w W Fr l g2 n gD gP gO cD cP cO D P O F Z C → (∀ k, W.heap.size ≤ k → Fr k) → (∀ k, Fr k → w.heap.size ≤ k) → Rd W W.heap.size A m (I64 (ofN ds)) → (∀ k, inBlk A k → ¬ Fr k) → (∀ d ∈ ds, d < n) → ds.Nodup → (∀ x y, x < n → y < n → TurnsTo l x y → x ∈ ds → y ∈ ds) → m ≤ n →
      Calls Try.prog 66 #[.pointer (some ⟨g2, 0, none⟩), .slice A m c, .func (.func 65) #[.pointer (some ⟨g, 0, none⟩)] #[]] W fun e w' => e = .returned (.tuple #[]) ∧ (∃ D' P' O' F' Z' C', Alk w w' Fr l g2 n gD gP gO cD cP cO D' P' O' F' Z' C' ∧ F.length ≤ F'.length) ∧ Mod Fr W w') := by
    intro Fr g2 gD gP gO cD cP cO D P O F Z C A m c ds W a hF hB hrd hA hds hnd hcl hm
    refine (cspart_p Fr w.heap.size w g2 n gD gP gO cD cP cO D P O F Z C A m c ds _ _ (sgL b) W a.m hF hB a.be.size a.be a.s a.c hrd hA hds hnd (fun d hd => by rw [hn] at hd ⊢; exact HI.out.lt' d hd) (fun d e hd he q => ?_) BK (fun _ _ => rfl) (by omega) (by omega)).mono ?_
    · have hlb : b.length = l.length := HI.out.len
      exact HI.out.symm.inj d e (by rw [hlb, ← hn]; exact hd) (by rw [hlb, ← hn]; exact he) q
    · rintro e w' ⟨rfl, D', P', O', F', Z', C', h1, h2, h3, h4, h5, h6⟩
      refine ⟨rfl, ⟨D', P', O', F', Z', C', ⟨h1, h2, h3, fun x y hx hy t => h5 (TurnsTo l) a.fi (fun d e hd he t => ?_) x y hx hy t, a.be.trans (h6.belowB a.be.size fun i hi q => by have := hB i q; omega)⟩, h4⟩, h6⟩
      have key : ∀ d e, d < n → e < n → TurnsTo l d e → d ∈ ds.map (sgL b) → e ∈ ds.map (sgL b) := fun d e hd he t hm => by
        obtain ⟨y, hy, rfl⟩ := List.mem_map.1 hm
        obtain ⟨y', h1, h2, h3⟩ := turns_back HI.out (by rw [← hn]; exact HEV.out) (by rw [← hn]; exact hds y hy) t
        exact List.mem_map.2 ⟨y', hcl y y' (hds y hy) (by rw [hn]; exact h1) h2 hy, h3⟩
      exact ⟨key d e hd he t, key e d he hd ((turns_eqv HI.out (by rw [← hn]; exact HEV.out)).symm d e (by rw [← hn]; exact hd) (by rw [← hn]; exact he) t)⟩
  have PM : Hid (∀ (Fr : Nat → Prop) (g2 gD gP gO cD cP cO : Nat) (D P O F Z C : List Nat) (A : Option Addr) (m c : Nat) (ds : List Nat) (W : World), Alk w W Fr l g2 n gD gP gO cD cP cO D P O F Z C → (∀ k, W.heap.size ≤ k → Fr k) → (∀ k, Fr k → w.heap.size ≤ k) → Rd W W.heap.size A m (I64 (ofN ds)) → (∀ k, inBlk A k → ¬ Fr k) → (∀ d ∈ ds, d < n) → ds.Nodup → (∀ x y, x < n → y < n → TurnsTo l x y → x ∈ ds → y ∈ ds) → m ≤ n →
      Calls Try.prog 66 #[.pointer (some ⟨g2, 0, none⟩), .slice A m c, .func (.func 55) #[.pointer (some ⟨g, 0, none⟩)] #[]] W fun e w' => e = .returned (.tuple #[]) ∧ (∃ D' P' O' F' Z' C', Alk w w' Fr l g2 n gD gP gO cD cP cO D' P' O' F' Z' C' ∧ F.length ≤ F'.length) ∧ Mod Fr W w') := by
    intro Fr g2 gD gP gO cD cP cO D P O F Z C A m c ds W a hF hB hrd hA hds hnd hcl hm
    refine (cspart_p Fr w.heap.size w g2 n gD gP gO cD cP cO D P O F Z C A m c ds _ _ mt W a.m hF hB a.be.size a.be a.s a.c hrd hA hds hnd (fun d hd => mt_in HEV.out hd) (fun d e hd he q => cmt_inj q) MT (fun _ _ => rfl) (by omega) (by omega)).mono ?_
    rintro e w' ⟨rfl, D', P', O', F', Z', C', h1, h2, h3, h4, h5, h6⟩
    refine ⟨rfl, ⟨D', P', O', F', Z', C', ⟨h1, h2, h3, fun x y hx hy t => h5 (TurnsTo l) a.fi (fun d e hd he t => ?_) x y hx hy t, a.be.trans (h6.belowB a.be.size fun i hi q => by have := hB i q; omega)⟩, h4⟩, h6⟩
    have key : ∀ d e, d < n → e < n → TurnsTo l d e → d ∈ ds.map mt → e ∈ ds.map mt := fun d e hd he t hm => by
      obtain ⟨y, hy, rfl⟩ := List.mem_map.1 hm
      obtain ⟨y', h1, h2, h3⟩ := turns_mate HI.out (by rw [← hn]; exact HEV.out) (by rw [← hn]; exact hds y hy) t
      exact List.mem_map.2 ⟨y', hcl y y' (hds y hy) (by rw [hn]; exact h1) h2 hy, h3⟩
    exact ⟨key d e hd he t, key e d he hd ((turns_eqv HI.out (by rw [← hn]; exact HEV.out)).symm d e (by rw [← hn]; exact hd) (by rw [← hn]; exact he) t)⟩
  clear h hi hn BK MT
  go_enter Try.func48, Try.ntmps48
  go_wp2_with fail
  refine SP.out.mono ?_
  rintro e w1 ⟨g2, gD, gP, gO, cD, cP, cO, D0, P0, O0, F0, Z0, C0, rfl, q1, q2, q3, q4, q5⟩
  rw [← HN.out] at q1 q2 q3 q4
  have AK0 : Hid (Alk w w1 (fun k => w.heap.size ≤ k) l g2 n gD gP gO cD cP cO D0 P0 O0 F0 Z0 C0) := by
    refine ⟨q1, q2, q3, fun x y hx hy t => q4 x y hx hy ?_ ?_, q5⟩
    · exact kd_eq HI.out (by rw [← HN.out]; exact HEV.out) (by rw [← HN.out]; exact hx) t
    · exact kd_eq (phi_inv HI.out (by rw [← HN.out]; exact HEV.out)) (by rw [phiL_len, ← HN.out]; exact HEV.out) (by rw [phiL_len, ← HN.out]; exact hx) (turns_phi HI.out t)
  clear q1 q2 q3 q4 q5 SP
  go_wp2_with fail
  go_loopw [6] (fun x wr => ∃ (i : Nat) (D P O F Z C : List Nat), i ≤ F.length ∧ x = .int .i64 (i : Int) ∧ Hid (Alk w wr (fun k => w.heap.size ≤ k) l g2 n gD gP gO cD cP cO D P O F Z C)) (fun x _ => n - (intOf x).toNat)
  case atStart => exact ⟨0, D0, P0, O0, F0, Z0, C0, Nat.zero_le _, rfl, AK0⟩
  case round =>
    clear AK0
    obtain ⟨i, D, P, O, F, Z, C, hiF, rfl, AK⟩ := hrel
    obtain ⟨AF, cF, AZ, cZ, AC, cC, R, hZl, hCl⟩ := AK.out.m
    have r3 := R.bx.cell 3
    simp at r3
    obtain ⟨K, hK⟩ : ∃ K, K = F.length := ⟨_, rfl⟩
    rw [← hK] at r3 hiF
    have hKn : K ≤ n := by rw [hK]; exact AK.out.s.few
    have HK := Lib.hid hK
    by_cases hlt : i < K
    · have hdk : decide (i < K) = true := decide_eq_true hlt
      have hfz := AK.out.s.fz i (by rw [← hK]; exact hlt)
      have hpz := AK.out.s.pos i (by rw [← hK]; exact hlt)
      have AL := Lib.hid (csall_p _ g2 n gD gP gO cD cP cO D P O F Z C i wr AK.out.m AK.out.s.dl (by rw [← hK]; exact hlt) hfz hpz (by omega) (by rw [← hK]; omega))
      have HMEM : Hid (∀ x, x ∈ atL D (F.getD i 0) (Z.getD i 0) ↔ x < n ∧ O.getD x 0 = i) := fun x => AK.out.s.all_mem (by rw [← hK]; exact hlt)
      have HND : Hid (atL D (F.getD i 0) (Z.getD i 0)).Nodup := AK.out.s.atL_nodup hfz
      have HFI : Hid (∀ x y, x < n → y < n → TurnsTo l x y → x ∈ atL D (F.getD i 0) (Z.getD i 0) → y ∈ atL D (F.getD i 0) (Z.getD i 0)) := fun x y hx hy t hm => (HMEM.out y).2 ⟨hy, by rw [← AK.out.fi x y hx hy t]; exact ((HMEM.out x).1 hm).2⟩
      have hal := atL_len D (F.getD i 0) (Z.getD i 0) (by rw [AK.out.s.dl]; exact hfz)
      have hzn : Z.getD i 0 ≤ n := by omega
      have HZ0 : Hid (0 < Z.getD i 0) := hpz
      have HDS : Hid (∀ d ∈ atL D (F.getD i 0) (Z.getD i 0), d < n) := fun d hd => ((HMEM.out d).1 hd).1
      generalize atL D (F.getD i 0) (Z.getD i 0) = ds at *
      generalize F.getD i 0 = f at *
      generalize Z.getD i 0 = z at *
      have HAL := Lib.hid hal
      clear hal hfz hpz R hZl hCl hK HMEM
      go_wp2_with fail
      refine AL.out.mono ?_
      rintro e w2 ⟨c2, rfl, rd2, j2, rfl⟩
      have AK2 : Hid (Alk w (wr.drewN j2) (fun k => w.heap.size ≤ k) l g2 n gD gP gO cD cP cO D P O F Z C) := ⟨AK.out.m.below (below_draws (Below.refl _ _) _), AK.out.s, AK.out.c, AK.out.fi, below_draws AK.out.be _⟩
      generalize wr.drewN j2 = w2 at *
      have CL := Lib.hid (cloneI_any (some ⟨gD, f, none⟩) z c2 _ (ofN ds) w2 rd2 (by omega))
      clear AL rd2 AK r3
      go_wp2_with fail
      refine CL.out.mono ?_
      rintro e w3 ⟨A3, c3, rfl, h31, h32, o3, b3⟩
      have e3 : (ofN ds).length = z := by rw [ofN_len, HAL.out]
      rw [e3] at o3 h31 ⊢
      have HO3 := Lib.hid o3
      have AK3 : Hid (Alk w w3 (fun k => w.heap.size ≤ k ∧ (Value.slice A3 z c3).ownBlock ≠ some k) l g2 n gD gP gO cD cP cO D P O F Z C) := by
        refine ⟨((AK2.out.m.mono (Fr' := fun k => w.heap.size ≤ k ∧ k < w2.heap.size) fun k h1 h2 => ⟨h2, h1⟩).below b3).mono fun k h1 h2 => ⟨h2.1, fun c => ?_⟩, AK2.out.s, AK2.out.c, AK2.out.fi, AK2.out.be.trans (b3.mono AK2.out.be.size)⟩
        have := (HO3.out.lt k c).1
        omega
      have HW2 : Hid (w.heap.size ≤ w2.heap.size) := AK2.out.be.size
      have HFL : Hid (i + 1 ≤ F.length) := by show _ ≤ _; rw [← HK.out]; omega
      clear CL AK2 h31 h32 o3 b3 e3
      go_wp2_with fail
      go_loopw [30] (fun x wx => ∃ (j : Nat) (D P O F Z C : List Nat), j ≤ 2 ∧ x = .int .i64 (j : Int) ∧ Hid (i + 1 ≤ F.length) ∧ Hid (wx.ownsRow w2.heap.size 3 1 (.slice A3 z c3) z (I64 (ofN ds))) ∧ Hid (Alk w wx (fun k => w.heap.size ≤ k ∧ (Value.slice A3 z c3).ownBlock ≠ some k) l g2 n gD gP gO cD cP cO D P O F Z C)) (fun x _ => 2 - (intOf x).toNat)
      case atStart => exact ⟨0, D, P, O, F, Z, C, by omega, rfl, HFL, HO3, AK3⟩
      case round =>
        clear AK3 HO3 HFL HK
        obtain ⟨j, D1, P1, O1, F1, Z1, C1, hj, rfl, HFL, HO, AK⟩ := hrel
        have ix0 : ∀ W : World, (Instr.index 100 (.agg #[.func (.func 65) #[.pointer (some ⟨g, 0, none⟩)] #[], .func (.func 55) #[.pointer (some ⟨g, 0, none⟩)] #[]]) (.int .i64 0)).run Try.prog W = .ok (.func (.func 65) #[.pointer (some ⟨g, 0, none⟩)] #[]) W := fun W => by rfl
        have ix1 : ∀ W : World, (Instr.index 100 (.agg #[.func (.func 65) #[.pointer (some ⟨g, 0, none⟩)] #[], .func (.func 55) #[.pointer (some ⟨g, 0, none⟩)] #[]]) (.int .i64 1)).run Try.prog W = .ok (.func (.func 55) #[.pointer (some ⟨g, 0, none⟩)] #[]) W := fun W => by rfl
        rcases (by omega : j = 0 ∨ j = 1 ∨ j = 2) with rfl | rfl | rfl
        · have hdj : decide ((0 : Int) < 2) = true := by decide
          have HC := Lib.hid (PB.out _ g2 gD gP gO cD cP cO D1 P1 O1 F1 Z1 C1 A3 z c3 ds wr AK.out (fun k hk => ⟨by have := HW2.out; have := (AK.out.be.size); omega, fun c => by have := (HO.out.lt k c).2; omega⟩) (fun k hk => hk.1) (Rd.ofOwn HO.out) (fun k hk c => by
            obtain ⟨a, ha, hb⟩ := hk
            obtain ⟨b', o', e1, _⟩ := (Rd.ofOwn HO.out).at_ (by have := HZ0.out; omega)
            rw [ha] at e1
            obtain rfl := Option.some.inj e1
            obtain ⟨b2, e2, _⟩ := own_some HO.out (by have := HZ0.out; omega)
            rw [ha] at e2
            obtain ⟨rfl, rfl⟩ := Addr.mk.inj (Option.some.inj e2) |>.imp id And.left
            exact c.2 (by rw [ha, ← hb]; simp [Value.ownBlock])) HDS.out HND.out HFI.out (by omega))
          go_wp2_with fail
          refine HC.out.mono ?_
          rintro e w5 ⟨rfl, ⟨D', P', O', F', Z', C', a5, l5⟩, m5⟩
          have A5 := Lib.hid a5
          have HO5 := Lib.hid (own_mod HO.out m5 fun k hk q => q.2 hk)
          clear a5 m5 HC
          go_wp2_with fail
          go_roundw
          case rel => exact ⟨0 + 1, D', P', O', F', Z', C', by omega, rfl, Nat.le_trans HFL.out l5, HO5, A5⟩
          case measure => simp [intOf]
        · have hdj : decide ((1 : Int) < 2) = true := by decide
          have HC := Lib.hid (PM.out _ g2 gD gP gO cD cP cO D1 P1 O1 F1 Z1 C1 A3 z c3 ds wr AK.out (fun k hk => ⟨by have := HW2.out; have := (AK.out.be.size); omega, fun c => by have := (HO.out.lt k c).2; omega⟩) (fun k hk => hk.1) (Rd.ofOwn HO.out) (fun k hk c => by
            obtain ⟨a, ha, hb⟩ := hk
            obtain ⟨b', o', e1, _⟩ := (Rd.ofOwn HO.out).at_ (by have := HZ0.out; omega)
            rw [ha] at e1
            obtain rfl := Option.some.inj e1
            obtain ⟨b2, e2, _⟩ := own_some HO.out (by have := HZ0.out; omega)
            rw [ha] at e2
            obtain ⟨rfl, rfl⟩ := Addr.mk.inj (Option.some.inj e2) |>.imp id And.left
            exact c.2 (by rw [ha, ← hb]; simp [Value.ownBlock])) HDS.out HND.out HFI.out (by omega))
          go_wp2_with fail
          refine HC.out.mono ?_
          rintro e w5 ⟨rfl, ⟨D', P', O', F', Z', C', a5, l5⟩, m5⟩
          have A5 := Lib.hid a5
          have HO5 := Lib.hid (own_mod HO.out m5 fun k hk q => q.2 hk)
          clear a5 m5 HC
          go_wp2_with fail
          go_roundw
          case rel => exact ⟨1 + 1, D', P', O', F', Z', C', by omega, rfl, Nat.le_trans HFL.out l5, HO5, A5⟩
          case measure => simp [intOf]
        · have hdj : decide ((2 : Int) < 2) = false := by decide
          have AK9 : Hid (Alk w wr (fun k => w.heap.size ≤ k) l g2 n gD gP gO cD cP cO D1 P1 O1 F1 Z1 C1) := ⟨AK.out.m.mono fun k _ h => h.1, AK.out.s, AK.out.c, AK.out.fi, AK.out.be⟩
          go_wp2_with fail
          go_roundw
          case rel => exact ⟨i + 1, D1, P1, O1, F1, Z1, C1, HFL.out, by go_num, AK9⟩
          case measure => simp [intOf]; omega
    · have hdk : decide (i < K) = false := decide_eq_false hlt
      have r2 := R.bx.cell 2
      simp at r2
      obtain ⟨c2, _⟩ := R.cellN 2 rfl rfl AK.out.s.ol r hr
      obtain ⟨s, hs⟩ : ∃ s, s = O.getD r 0 := ⟨_, rfl⟩
      rw [← hs] at c2
      have hsF : s < F.length := by rw [hs]; exact AK.out.s.olt r hr
      have hfz := AK.out.s.fz s hsF
      have AL := Lib.hid (csall_p _ g2 n gD gP gO cD cP cO D P O F Z C s wr AK.out.m AK.out.s.dl hsF hfz (AK.out.s.pos s hsF) (by omega) (by rw [← hK]; omega))
      have HEND : Hid (Z.getD s 0 ≤ l.length ∧ (∀ d ∈ atL D (F.getD s 0) (Z.getD s 0), d < l.length) ∧ (∀ d, d < l.length → TurnsTo l r d → d ∈ atL D (F.getD s 0) (Z.getD s 0))) :=
        ⟨by rw [← HN.out]; omega, fun d hd => by rw [← HN.out]; exact ((AK.out.s.all_mem hsF).1 hd).1, fun d hd t => (AK.out.s.all_mem hsF).2 ⟨by rw [HN.out]; exact hd, by rw [hs]; exact (AK.out.fi r d hr (by rw [HN.out]; exact hd) t).symm⟩⟩
      have BE := Lib.hid AK.out.be
      have HGD : Hid (w.heap.size ≤ gD) := R.fr 0 gD (by simp) (by simp [Value.ownBlock])
      have hri : (r : Int) < (n : Int) := by omega
      clear hs hfz hsF R AK hZl hCl hK
      go_wp2_with fail
      refine AL.out.mono ?_
      rintro e w5 ⟨c5, rfl, rd5, j5, rfl⟩
      have RD5 := Lib.hid rd5
      clear rd5 AL
      go_wp2_with fail
      go_ret
      exact ⟨_, _, _, _, rfl, RD5.out, HEND.out.1, HEND.out.2.1, HEND.out.2.2, fun k ⟨a, ha, hb⟩ => by rw [← hb, ← Option.some.inj ha]; exact HGD.out, below_draws BE.out _⟩
end Go.Proofs.Ytoncollcefanjaa
namespace Go.Proofs.Ytoncollcefanjaa
set_option maxRecDepth 20000
open Go.RowKit
set_option linter.unusedVariables false
set_option linter.unusedSimpArgs false
/-- What turns take d to. -/
inductive Rch (ts : List (List Nat)) (d : Nat) : Nat → Prop
  | refl : Rch ts d d
  | step {x : Nat} {t : List Nat} : Rch ts d x → t ∈ ts → Rch ts d (sgL t x)
theorem Rch.mono {ts ts' : List (List Nat)} (hs : ∀ t ∈ ts, t ∈ ts') {d x : Nat} (h : Rch ts d x) : Rch ts' d x := by
  induction h with
  | refl => exact .refl
  | step _ ht ih => exact .step ih (hs _ ht)
theorem Rch.lt {n : Nat} {ts : List (List Nat)} (ht : ∀ t ∈ ts, ∀ x, x < n → sgL t x < n) {d x : Nat} (hd : d < n) (h : Rch ts d x) : x < n := by
  induction h with
  | refl => exact hd
  | step _ h1 ih => exact ht _ h1 _ ih
/-- While d's darts are reached: Q so far; those ahead of i are done, of i the first j turns. -/
structure Rc (n T d : Nat) (ts : List (List Nat)) (told0 Q told : List Nat) (i j : Nat) : Prop where
  nd : Q.Nodup
  lt : ∀ x ∈ Q, x < n
  hd : d ∈ Q
  rch : ∀ x ∈ Q, Rch ts d x
  tl : told.length = n
  tv : ∀ x, x < n → told.getD x 0 = if x ∈ Q then T else told0.getD x 0
  cl : ∀ k, k < i → ∀ t ∈ ts, sgL t (Q.getD k 0) ∈ Q
  cj : ∀ k, k < j → sgL (ts.getD k []) (Q.getD i 0) ∈ Q
theorem nodup_le {n : Nat} {Q : List Nat} (nd : Q.Nodup) (lt : ∀ x ∈ Q, x < n) : Q.length ≤ n := by
  have := List.Nodup.length_le_of_subset nd (l₂ := List.range n) fun x hx => List.mem_range.2 (lt x hx)
  rwa [List.length_range] at this
theorem getD_left (Q : List Nat) (x k : Nat) (h : k < Q.length) : (Q ++ [x]).getD k 0 = Q.getD k 0 := by
  rw [List.getD_eq_getElem?_getD, List.getElem?_append_left h, ← List.getD_eq_getElem?_getD]
section
variable {n T d : Nat} {ts : List (List Nat)} {told0 Q told : List Nat} {i j : Nat}
theorem Rc.start (hd : d < n) (hl : told0.length = n) : Rc n T d ts told0 [d] (told0.set d T) 0 0 :=
  ⟨by simp, fun x hx => by rw [List.mem_singleton] at hx; omega, by simp, fun x hx => by rw [List.mem_singleton] at hx; rw [hx]; exact .refl, by simpa using hl, fun x hx => by
    rw [getDN_set _ _ _ _ (by rw [hl]; exact hd)]
    simp only [List.mem_singleton], fun k hk => absurd hk (by omega), fun k hk => absurd hk (by omega)⟩
theorem Rc.old (h : Rc n T d ts told0 Q told i j) (h0 : ∀ x, x < n → told0.getD x 0 ≠ T) {y : Nat} (hy : y = sgL (ts.getD j []) (Q.getD i 0)) (hyn : y < n) (ht : told.getD y 0 = T) : Rc n T d ts told0 Q told i (j + 1) := by
  have hm : y ∈ Q := by
    have := h.tv y hyn
    rw [ht] at this
    by_cases c : y ∈ Q
    · exact c
    · rw [if_neg c] at this; exact absurd this.symm (h0 y hyn)
  refine ⟨h.nd, h.lt, h.hd, h.rch, h.tl, h.tv, h.cl, fun k hk => ?_⟩
  by_cases e : k = j
  · rw [e, ← hy]; exact hm
  · exact h.cj k (by omega)
theorem Rc.new (h : Rc n T d ts told0 Q told i j) {y : Nat} (hi : i < Q.length) (hj : j < ts.length) (hy : y = sgL (ts.getD j []) (Q.getD i 0)) (hyn : y < n) (ht : told.getD y 0 ≠ T) : Rc n T d ts told0 (Q ++ [y]) (told.set y T) i (j + 1) := by
  have hm : y ∉ Q := fun c => ht (by rw [h.tv y hyn, if_pos c])
  have htj : ts.getD j [] ∈ ts := by rw [List.getD_eq_getElem?_getD, List.getElem?_eq_getElem hj]; exact List.getElem_mem hj
  have hqi : Q.getD i 0 ∈ Q := getD_orb_mem hi
  refine ⟨List.nodup_append.2 ⟨h.nd, by simp, fun a ha b hb => by rw [List.mem_singleton] at hb; rw [hb]; exact fun e => hm (by rw [← e]; exact ha)⟩, fun x hx => ?_, List.mem_append_left _ h.hd, fun x hx => ?_, by rw [List.length_set]; exact h.tl, fun x hx => ?_, fun k hk t ht' => ?_, fun k hk => ?_⟩
  · rcases List.mem_append.1 hx with q | q
    · exact h.lt x q
    · rw [List.mem_singleton] at q; omega
  · rcases List.mem_append.1 hx with q | q
    · exact h.rch x q
    · rw [List.mem_singleton] at q; rw [q, hy]; exact .step (h.rch _ hqi) htj
  · rw [getDN_set _ _ _ _ (by rw [h.tl]; exact hyn)]
    by_cases e : x = y
    · rw [if_pos e, if_pos (by rw [e]; simp)]
    · rw [if_neg e, h.tv x hx]
      have : x ∈ Q ++ [y] ↔ x ∈ Q := by simp [e]
      by_cases c : x ∈ Q
      · rw [if_pos c, if_pos (this.2 c)]
      · rw [if_neg c, if_neg (fun w => c (this.1 w))]
  · rw [getD_left _ _ _ (by omega)]
    exact List.mem_append_left _ (h.cl k hk t ht')
  · rw [getD_left _ _ _ hi]
    by_cases e : k = j
    · rw [e, ← hy]; simp
    · exact List.mem_append_left _ (h.cj k (by omega))
theorem Rc.next (h : Rc n T d ts told0 Q told i ts.length) (hi : i < Q.length) : Rc n T d ts told0 Q told (i + 1) 0 :=
  ⟨h.nd, h.lt, h.hd, h.rch, h.tl, h.tv, fun k hk t ht => by
    by_cases e : k = i
    · obtain ⟨j, hj, rfl⟩ := List.getElem_of_mem ht
      have := h.cj j hj
      rw [List.getD_eq_getElem?_getD, List.getElem?_eq_getElem hj] at this
      rw [e]; exact this
    · exact h.cl k (by omega) t ht, fun k hk => absurd hk (by omega)⟩
theorem Rc.done (h : Rc n T d ts told0 Q told Q.length 0) : ∀ x, x ∈ Q ↔ Rch ts d x := fun x => ⟨h.rch x, fun r => by
  induction r with
  | refl => exact h.hd
  | step _ ht ih =>
    obtain ⟨k, hk, rfl⟩ := mem_getD ih
    exact h.cl k hk _ ht⟩
end
/-- Of a list of different numbers, the count. -/
theorem num_mem {n : Nat} : ∀ {Q : List Nat}, Q.Nodup → (∀ x ∈ Q, x < n) → num (fun x => x ∈ Q) n = Q.length
  | [], _, _ => num_zero fun d _ c => by simp at c
  | a :: Q, nd, lt => by
    obtain ⟨h1, h2⟩ := List.nodup_cons.1 nd
    have ih := num_mem h2 (fun x hx => lt x (List.mem_cons_of_mem _ hx))
    have ha : a < n := lt a (by simp)
    have e1 : num (fun x => x = a) n = 1 := by
      have : ∀ k, num (fun x => x = a) k = if a < k then 1 else 0 := fun k => by
        induction k with
        | zero => rfl
        | succ k ih =>
          by_cases c : k = a
          · rw [(num_next (fun x => x = a) k).1 c, ih, if_neg (by omega), if_pos (by omega)]
          · rw [(num_next (fun x => x = a) k).2 c, ih]
            by_cases c2 : a < k
            · rw [if_pos c2, if_pos (by omega)]
            · rw [if_neg c2, if_neg (by omega)]
      rw [this, if_pos ha]
    rw [List.length_cons, ← ih, Nat.add_comm, ← e1, cnum_or (P := fun x => x = a) (Q := fun x => x ∈ Q) (fun e h3 h4 => h1 (by rw [← h3]; exact h4))]
    exact num_congr fun d _ => by simp
/-- t is a turn of l into itself. -/
def IsT (l t : List Nat) : Prop := ∃ q, Nam l.length t q ∧ cjL t q l = l
theorem IsT.lt {l t : List Nat} (h : IsT l t) {x : Nat} (hx : x < l.length) : sgL t x < l.length := by obtain ⟨q, h, _⟩ := h; exact h.lt hx
theorem IsT.to {l t : List Nat} (h : IsT l t) (x : Nat) : TurnsTo l x (sgL t x) := by
  obtain ⟨q, h1, h2⟩ := h
  exact ⟨t, q, h1, h2, rfl⟩
theorem rch_turns {l b : List Nat} (hl : Inv l b) (he : l.length % 2 = 0) {ts : List (List Nat)} (ht : ∀ t ∈ ts, IsT l t) {d x : Nat} (hd : d < l.length) (h : Rch ts d x) : x < l.length ∧ TurnsTo l d x := by
  induction h with
  | refl => exact ⟨hd, (turns_eqv hl he).refl d hd⟩
  | step _ h1 ih => exact ⟨(ht _ h1).lt ih.1, (turns_eqv hl he).trans _ _ _ hd ih.1 ((ht _ h1).lt ih.1) ih.2 ((ht _ h1).to _)⟩
/-- A step: along the vertex, or to the mate. -/
def stp (l : List Nat) (j x : Nat) : Nat := if j = 0 then sgL l x else mt x
theorem stp_lt {l b : List Nat} (hl : Inv l b) (he : l.length % 2 = 0) (j : Nat) {x : Nat} (hx : x < l.length) : stp l j x < l.length := by
  unfold stp; split
  · exact hl.lt x hx
  · exact mt_in he hx
/-- While a turn is tried that takes r to e. -/
structure Tn (l : List Nat) (r e : Nat) (Q : List Nat) (img : List Int) (i j : Nat) (ok : Bool) : Prop where
  nd : Q.Nodup
  lt : ∀ x ∈ Q, x < l.length
  il : img.length = l.length
  hr : r ∈ Q
  st : ∀ x, x < l.length → (x ∈ Q ↔ img.getD x 0 ≠ -1)
  vl : ∀ x ∈ Q, ∃ y : Nat, y < l.length ∧ img.getD x 0 = (y : Int)
  rt : img.getD r 0 = (e : Int)
  ag : ∀ p q, Trn l l r e p q → ∀ x ∈ Q, img.getD x 0 = ((sgL p x : Nat) : Int)
  oc : ok = true → ∀ k, k < i → ∀ s, s < 2 → ∃ y : Nat, img.getD (Q.getD k 0) 0 = (y : Int) ∧ img.getD (stp l s (Q.getD k 0)) 0 = ((stp l s y : Nat) : Int)
  oj : ok = true → ∀ s, s < j → ∃ y : Nat, img.getD (Q.getD i 0) 0 = (y : Int) ∧ img.getD (stp l s (Q.getD i 0)) 0 = ((stp l s y : Nat) : Int)
  bad : ok = false → ¬ TurnsTo l r e
section
variable {l b : List Nat} {r e : Nat} {Q : List Nat} {img : List Int} {i j : Nat} {ok : Bool}
theorem Tn.start (hr : r < l.length) (he : e < l.length) : Tn l r e [r] ((List.replicate l.length (-1)).set r (e : Int)) 0 0 true := by
  have g : ∀ x, x < l.length → ((List.replicate l.length (-1 : Int)).set r (e : Int)).getD x 0 = if x = r then (e : Int) else -1 := fun x hx => by
    rw [getDI_set _ _ _ _ (by simpa using hr)]
    split
    · rfl
    · rw [List.getD_eq_getElem?_getD, List.getElem?_replicate, if_pos hx]; rfl
  refine ⟨by simp, fun x hx => by rw [List.mem_singleton] at hx; omega, by simp, by simp, fun x hx => ?_, fun x hx => ?_, by rw [g r hr, if_pos rfl], fun p q t x hx => ?_, fun _ k hk => absurd hk (by omega), fun _ s hs => absurd hs (by omega), fun c => by cases c⟩
  · rw [g x hx, List.mem_singleton]
    by_cases c : x = r
    · rw [if_pos c]; exact ⟨fun _ => by omega, fun _ => c⟩
    · rw [if_neg c]; exact ⟨fun q => absurd q c, fun q => absurd rfl q⟩
  · rw [List.mem_singleton] at hx
    exact ⟨e, he, by rw [hx, g r hr, if_pos rfl]⟩
  · rw [List.mem_singleton] at hx
    rw [hx, g r hr, if_pos rfl, t.root]
theorem trn_stp {p q : List Nat} (t : Trn l l r e p q) (s : Nat) {x : Nat} (hx : x < l.length) : sgL p (stp l s x) = stp l s (sgL p x) := by
  have := t.map x hx
  unfold stp
  split
  · exact this.1
  · exact this.2
/-- A dart that isn't told yet. -/
theorem Tn.new (hl : Inv l b) (he : l.length % 2 = 0) (h : Tn l r e Q img i j ok) (hi : i < Q.length) {f y : Nat} (hf : f < l.length) (hfi : img.getD (Q.getD i 0) 0 = (f : Int)) (hy : y = stp l j (Q.getD i 0)) (hu : img.getD y 0 = -1) :
    Tn l r e (Q ++ [y]) (img.set y ((stp l j f : Nat) : Int)) i (j + 1) ok := by
  have hqi : Q.getD i 0 ∈ Q := getD_orb_mem hi
  have hyn : y < l.length := by rw [hy]; exact stp_lt hl he j (h.lt _ hqi)
  have hyQ : y ∉ Q := fun c => ((h.st y hyn).1 c) hu
  have g : ∀ x, (img.set y ((stp l j f : Nat) : Int)).getD x 0 = if x = y then ((stp l j f : Nat) : Int) else img.getD x 0 := fun x => getDI_set _ _ _ _ (by rw [h.il]; exact hyn)
  have gQ : ∀ x, x ∈ Q → (img.set y ((stp l j f : Nat) : Int)).getD x 0 = img.getD x 0 := fun x hx => by rw [g, if_neg (fun c => hyQ (by rw [← c]; exact hx))]
  have gS : ∀ x (z : Nat), img.getD x 0 = (z : Int) → (img.set y ((stp l j f : Nat) : Int)).getD x 0 = (z : Int) := fun x z hz => by
    rw [g]
    by_cases c : x = y
    · rw [c, hu] at hz; omega
    · rw [if_neg c, hz]
  refine ⟨List.nodup_append.2 ⟨h.nd, by simp, fun a ha b hb => by rw [List.mem_singleton] at hb; rw [hb]; exact fun e => hyQ (by rw [← e]; exact ha)⟩, fun x hx => ?_, by rw [List.length_set]; exact h.il, List.mem_append_left _ h.hr, fun x hx => ?_, fun x hx => ?_, gS r e h.rt, fun p q t x hx => ?_, fun ho k hk s hs => ?_, fun ho s hs => ?_, h.bad⟩
  · rcases List.mem_append.1 hx with q | q
    · exact h.lt x q
    · rw [List.mem_singleton] at q; omega
  · rw [g, List.mem_append, List.mem_singleton]
    by_cases c : x = y
    · rw [if_pos c]; exact ⟨fun _ => by omega, fun _ => .inr c⟩
    · rw [if_neg c]; exact ⟨fun q => (h.st x hx).1 (q.elim id fun q => absurd q c), fun q => .inl ((h.st x hx).2 q)⟩
  · rcases List.mem_append.1 hx with q | q
    · obtain ⟨z, h1, h2⟩ := h.vl x q
      exact ⟨z, h1, gS x z h2⟩
    · rw [List.mem_singleton] at q
      exact ⟨stp l j f, stp_lt hl he j hf, by rw [q, g, if_pos rfl]⟩
  · rcases List.mem_append.1 hx with w | w
    · rw [gQ x w]; exact h.ag p q t x w
    · rw [List.mem_singleton] at w
      rw [w, g, if_pos rfl, hy, trn_stp t j (h.lt _ hqi)]
      have := h.ag p q t _ hqi
      rw [hfi] at this
      have : f = sgL p (Q.getD i 0) := by omega
      rw [this]
  · obtain ⟨z, h1, h2⟩ := h.oc ho k hk s hs
    rw [getD_left _ _ _ (by omega)]
    exact ⟨z, gS _ z h1, gS _ _ h2⟩
  · rw [getD_left _ _ _ hi]
    by_cases c : s = j
    · exact ⟨f, gS _ f hfi, by rw [c, ← hy, g, if_pos rfl]⟩
    · obtain ⟨z, h1, h2⟩ := h.oj ho s (by omega)
      exact ⟨z, gS _ z h1, gS _ _ h2⟩
/-- One that is told. -/
theorem Tn.old (h : Tn l r e Q img i j ok) (hi : i < Q.length) {f y : Nat} (hfi : img.getD (Q.getD i 0) 0 = (f : Int)) (hy : y = stp l j (Q.getD i 0)) (hyn : y < l.length) (hu : img.getD y 0 ≠ -1) :
    Tn l r e Q img i (j + 1) (ok && decide (img.getD y 0 = ((stp l j f : Nat) : Int))) := by
  have hqi : Q.getD i 0 ∈ Q := getD_orb_mem hi
  refine ⟨h.nd, h.lt, h.il, h.hr, h.st, h.vl, h.rt, h.ag, fun ho => h.oc (by rw [Bool.and_eq_true] at ho; exact ho.1), fun ho s hs => ?_, fun ho t => ?_⟩
  · rw [Bool.and_eq_true, decide_eq_true_iff] at ho
    by_cases c : s = j
    · exact ⟨f, hfi, by rw [c, ← hy, ho.2]⟩
    · exact h.oj ho.1 s (by omega)
  · cases hok : ok with
    | false => exact h.bad hok t
    | true =>
      rw [hok, Bool.true_and, decide_eq_false_iff_not] at ho
      obtain ⟨p, q, t⟩ := t
      have h1 := h.ag p q t y ((h.st y hyn).2 hu)
      have h2 := h.ag p q t _ hqi
      rw [hfi] at h2
      apply ho
      rw [h1, hy, trn_stp t j (h.lt _ hqi), show f = sgL p (Q.getD i 0) by omega]
theorem Tn.next (h : Tn l r e Q img i 2 ok) (hi : i < Q.length) : Tn l r e Q img (i + 1) 0 ok :=
  ⟨h.nd, h.lt, h.il, h.hr, h.st, h.vl, h.rt, h.ag, fun ho k hk s hs => by
    by_cases c : k = i
    · rw [c]; exact h.oj ho s hs
    · exact h.oc ho k (by omega) s hs, fun _ s hs => absurd hs (by omega), h.bad⟩
/-- All is told, and right: it is a turn. -/
theorem Tn.done (hl : Inv l b) (he : l.length % 2 = 0) (hr : r < l.length) (hp : ∀ j, j < l.length → part l r j) (h : Tn l r e Q img i j true) (hi : Q.length ≤ i) : ∃ t, img = ofN t ∧ IsT l t ∧ sgL t r = e := by
  have nx : ∀ d ∈ Q, ∀ s, s < 2 → stp l s d ∈ Q := fun d hd s hs => by
    obtain ⟨k, hk, rfl⟩ := mem_getD hd
    obtain ⟨z, _, h2⟩ := h.oc rfl k (by omega) s hs
    exact (h.st _ (stp_lt hl he s (h.lt _ hd))).2 (by rw [h2]; omega)
  have all : ∀ d, d < l.length → d ∈ Q := one_closed hl he hr hp h.hr (fun d hd q => by have := nx d q 0 (by omega); unfold stp at this; simpa using this) (fun d hd q => by have := nx d q 1 (by omega); unfold stp at this; simpa using this)
  obtain ⟨f, hf⟩ : ∃ f : Nat → Nat, ∀ d, d < l.length → f d < l.length ∧ img.getD d 0 = (f d : Int) := ⟨fun d => (img.getD d 0).toNat, fun d hd => by
    obtain ⟨z, h1, h2⟩ := h.vl d (all d hd)
    simp only [h2, Int.toNat_natCast]
    exact ⟨h1, trivial⟩⟩
  have hst : ∀ d, d < l.length → ∀ s, s < 2 → f (stp l s d) = stp l s (f d) := fun d hd s hs => by
    obtain ⟨k, hk, hkd⟩ := mem_getD (all d hd)
    obtain ⟨z, h1, h2⟩ := h.oc rfl k (by omega) s hs
    rw [hkd] at h1 h2
    have a := (hf d hd).2
    have c := (hf _ (stp_lt hl he s hd)).2
    rw [h1] at a
    rw [h2] at c
    have : z = f d := by omega
    rw [this] at c
    omega
  have hs : ∀ d, d < l.length → f (sgL l d) = sgL l (f d) := fun d hd => by have := hst d hd 0 (by omega); unfold stp at this; simpa using this
  have hm : ∀ d, d < l.length → f (mt d) = mt (f d) := fun d hd => by have := hst d hd 1 (by omega); unfold stp at this; simpa using this
  have hfr : f r < l.length := (hf r hr).1
  have par : ∀ j, j < l.length → part l (f r) j := fun j hj => (part_eqv hl he).trans _ _ _ hfr hr hj ((part_eqv hl he).symm _ _ hr hfr (hp _ hfr)) (hp j hj)
  have sur : ∀ v, v < l.length → ∃ x, x < l.length ∧ f x = v := one_closed hl he hfr par (S := fun v => ∃ x, x < l.length ∧ f x = v) ⟨r, hr, rfl⟩ (fun d _ ⟨x, h1, h2⟩ => ⟨sgL l x, hl.lt x h1, by rw [hs x h1, h2]⟩) (fun d _ ⟨x, h1, h2⟩ => ⟨mt x, mt_in he h1, by rw [hm x h1, h2]⟩)
  have inj : ∀ d e, d < l.length → e < l.length → f d = f e → d = e := by
    obtain ⟨g, hg⟩ : ∃ g : Nat → Nat, ∀ v, v < l.length → g v < l.length ∧ f (g v) = v := ⟨fun v => if h : v < l.length then (sur v h).choose else 0, fun v hv => by
      simp only [dif_pos hv]
      exact (sur v hv).choose_spec⟩
    have sg := inj_surj l.length g (fun i hi => (hg i hi).1) (fun i j hi hj e => by rw [← (hg i hi).2, ← (hg j hj).2, e])
    intro d e hd he' q
    obtain ⟨v, hv, rfl⟩ := sg d hd
    obtain ⟨u, hu, rfl⟩ := sg e he'
    rw [(hg v hv).2, (hg u hu).2] at q
    rw [q]
  obtain ⟨p, q, t, hpf⟩ := Trn.ofMap hl he rfl (fun d hd => (hf d hd).1) inj hs hm hr
  have e2 : f r = e := by have := (hf r hr).2; rw [h.rt] at this; omega
  refine ⟨p, ?_, ⟨q, t.nam, t.img⟩, by rw [t.root, e2]⟩
  refine getDI_ext (by rw [h.il, ofN_len, t.nam.len]) fun x hx => ?_
  rw [h.il] at hx
  rw [ofN_get, (hf x hx).2]
  have := hpf x hx
  unfold sgL at this
  rw [this]
end
end Go.Proofs.Ytoncollcefanjaa
