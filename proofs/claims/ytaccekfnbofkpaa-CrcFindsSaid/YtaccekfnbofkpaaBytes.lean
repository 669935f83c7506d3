/- bytes.Equal; four bytes of a number, and back; a sum's copy; the checksum of bytes at once. -/
import Derived.Test.YtaccekfnbofkpaaSlices
import Derived.ArgAppend
namespace Go.Proofs.Ytaccekfnbofkpaa
open Go.RowKit

theorem conv_bytes (A : Option Addr) (n c B : Nat) (bs : List Nat) (w : World) (h : Rd w B A n (U8 bs)) :
    (convert 26 9 (.slice A n c)).run Try.prog w = .ok (.string (strOfNums (bs.map fun (b : Nat) => (b : Int)))) w := by
  have hl : bs.length = n := by rw [← h.len, U8_len]
  rcases Nat.eq_zero_or_pos n with h0 | h0
  · subst h0
    obtain rfl : bs = [] := List.eq_nil_of_length_eq_zero hl
    rw [run_convert_bytes_string w 26 9 5 _ 0 c Try.underlying26 Try.underlying5 Try.underlying9]
    cases A <;> simp [Conv.bytesToString, loadCells, loadCellsFrom, strOfNums] <;> rfl
  · obtain ⟨b, o, rfl, _, hc⟩ := h.at_ h0
    refine run_convert_bytes_arg (P := Try.prog) w 26 5 Try.underlying26 Try.underlying5 b o n c _ (by simpa using hl) (fun i hi => ?_) 9 Try.underlying9
    rw [hc i (by rw [U8_len]; omega), U8_get]
    simp [List.getD_eq_getElem?_getD, List.getElem?_eq_getElem (show i < bs.length by omega)]

theorem bytes_inj (cs bs : List Nat) (ha : ∀ b ∈ cs, b < 256) (hb : ∀ b ∈ bs, b < 256) :
    ((cs.map fun (b : Nat) => UInt8.ofNat (b : Int).toNat) = bs.map fun (b : Nat) => UInt8.ofNat (b : Int).toNat) ↔ cs = bs := by
  constructor
  · intro h
    induction cs generalizing bs with
    | nil => cases bs with
      | nil => rfl
      | cons b bs => simp at h
    | cons a cs ih => cases bs with
      | nil => simp at h
      | cons b bs =>
        simp only [List.map_cons, List.cons.injEq] at h
        have h1 := congrArg UInt8.toNat h.1
        simp only [Int.toNat_natCast, UInt8.toNat_ofNat'] at h1
        have := ha a (by simp)
        have := hb b (by simp)
        rw [ih bs (fun x hx => ha x (by simp [hx])) (fun x hx => hb x (by simp [hx])) h.2]
        rw [show a = b by omega]
  · rintro rfl; rfl

theorem equal_any (A1 A2 : Option Addr) (n c m d B1 B2 : Nat) (cs bs : List Nat) (w : World) (h1 : Rd w B1 A1 n (U8 cs)) (h2 : Rd w B2 A2 m (U8 bs)) (ha : ∀ b ∈ cs, b < 256) (hb : ∀ b ∈ bs, b < 256) :
    Calls Try.prog 17 #[.slice A1 n c, .slice A2 m d] w fun e w' => e = .returned (.bool (decide (cs = bs))) ∧ w = w' := by
  have k1 := conv_bytes A1 n c B1 cs w h1
  have k2 := conv_bytes A2 m d B2 bs w h2
  go_enter Try.func17, Try.ntmps17
  go_wp2
  go_ret
  refine ⟨congrArg (fun b => Ending.returned (.bool b)) ?_, rfl⟩
  rw [Bool.eq_iff_iff, beq_iff_eq, decide_eq_true_iff, ← bytes_inj cs bs ha hb]
  rw [ByteArray.toList_eq, ByteArray.toList_eq, strOfNums_data, strOfNums_data]
  simp only [List.map_map]
  exact Iff.rfl

theorem equal_same (A1 A2 : Option Addr) (n c m d B1 B2 : Nat) (bs : List Nat) (w : World) (h1 : Rd w B1 A1 n (U8 bs)) (h2 : Rd w B2 A2 m (U8 bs)) (hb : ∀ b ∈ bs, b < 256) :
    Calls Try.prog 17 #[.slice A1 n c, .slice A2 m d] w fun e w' => e = .returned (.bool true) ∧ w = w' :=
  (equal_any A1 A2 n c m d B1 B2 bs bs w h1 h2 hb hb).mono fun e w' ⟨he, hw⟩ => ⟨by simpa using he, hw⟩

theorem copy_any (g : Nat) (r m : Int) (w : World) (hb : Blk w g 45 #[.int .u32 r, .int .i64 m]) :
    Calls Try.prog 10 #[.pointer (some ⟨g, 0, none⟩)] w fun e w' => e = .returned (.pointer (some ⟨w.heap.size, 0, none⟩)) ∧
      Blk w' w.heap.size 45 #[.int .u32 r, .int .i64 m] ∧ Below w.heap.size w w' := by
  have h0 : w.cell? ⟨g, 0, none⟩ = some (.int .u32 r) := hb.cell 0
  have h1 : w.cell? ⟨g, 1, none⟩ = some (.int .i64 m) := hb.cell 1
  go_enter Try.func10, Try.ntmps10
  go_wp2
  go_region
  go_wp2
  go_ret
  exact ⟨rfl, Blk.new w _ _, ((Below.refl _ _).alloc (Nat.le_refl _) _).drew⟩

theorem of_any (A : Option Addr) (n c B : Nat) (bs : List Nat) (w : World) (h : Rd w B A n (U8 bs)) (hB : B ≤ w.heap.size) (hbs : ∀ b ∈ bs, b < 256) (hn : n ≤ 4611686018427387904) :
    Calls Try.prog 15 #[.slice A n c] w fun e w' => e = .returned (.int .u32 (crcSum bs : Nat)) ∧ Below w.heap.size w w' := by
  go_enter Try.func15, Try.ntmps15
  go_wp2_with fail
  refine (new_any _).mono ?_
  rintro e w1 ⟨rfl, rfl⟩
  go_wp2_with fail
  refine (add_any _ A n c 4294967295 0 B bs _ (Blk.new w _ _) (h.below ((Below.refl _ _).alloc hB _)) (by simp; omega) hbs (by omega) (by omega)).mono ?_
  rintro e w2 ⟨rfl, hb2, hm2⟩
  go_wp2_with fail
  refine (value_any _ _ _ _ (crcRaw_lt _ _ (by omega) hbs) hb2).mono ?_
  rintro e w3 ⟨rfl, rfl⟩
  go_wp2
  go_ret
  refine ⟨rfl, ?_⟩
  exact ((Below.refl _ _).alloc (Nat.le_refl _) _).trans (hm2.belowB (by simp) (fun i hi h => by omega))

def four (x : Nat) : List Nat := [x % 256, x / 256 % 256, x / 65536 % 256, x / 16777216 % 256]
theorem four_lt (x : Nat) : ∀ b ∈ four x, b < 256 := by
  intro b hb
  simp [four] at hb
  omega
def fourTo (k x : Nat) : List Nat := (four x).take k

theorem four_next (k x : Nat) (hk : k < 4) : fourTo (k + 1) x = fourTo k x ++ [x / 256 ^ k % 256] := by
  unfold fourTo four
  match k, hk with
  | 0, _ => simp
  | 1, _ => simp
  | 2, _ => simp
  | 3, _ => simp
theorem U8_append (l m : List Nat) : U8 (l ++ m) = U8 l ++ U8 m := by simp [U8]
theorem pow_next (k x : Nat) : x / 256 ^ (k + 1) = x / 256 ^ k / 256 := by rw [Nat.pow_succ, Nat.div_div_eq_div_mul]

set_option maxHeartbeats 400000 in
theorem four_any (x : Nat) (w : World) (hx : x < 4294967296) :
    Calls Try.prog 16 #[.int .u32 (x : Int)] w (NewU8 w (four x)) := by
  obtain ⟨i0, hi0, hz0, hz1, hz2⟩ := info_parts info_u8
  go_enter Try.func16, Try.ntmps16
  go_wp2
  go_loopw [0, 3, 4] (fun y v i wr => ∃ k z : Nat, k ≤ 4 ∧ i = .int .i64 k ∧ z = x / 256 ^ k ∧ y = .int .u32 (z : Int) ∧ wr.ownsRow w.heap.size 5 1 v k (U8 (fourTo k x)) ∧ Below w.heap.size w wr) (fun _ _ i _ => 4 - (intOf i).toNat)
  case atStart => exact ⟨0, x, by omega, rfl, by simp, rfl, World.ownsRow_nil _ _ _ _, Below.refl _ _⟩
  case round =>
    obtain ⟨k, z, hk, rfl, hz, rfl, hown, hb⟩ := hrel
    have hzl : z < 4294967296 := by rw [hz]; exact Nat.lt_of_le_of_lt (Nat.div_le_self _ _) hx
    have HZ := Lib.hid hz
    clear hz
    by_cases hlt : k < 4
    · go_wp2_with (first
        | (at_builtin; refine wpList_append_rd _ rfl _ _ 26 rfl w.heap.size 5 i0 (.int .u8 0) 1 Try.underlying26 hi0 hz0 hz1 hz2 rfl u3 k (U8 (fourTo k x)) rfl (hown.alloc _) (wr.heap.size + 1) (some ⟨wr.heap.size, 0, none⟩) 1 1 (U8 [z % 256]) rfl ?c4 (U8_one _) ?c1 ?c2 ?c3 ?_))
      case c1 => simp only [maxLen]; omega
      case c2 => omega
      case c3 => have := hb.size; simp; omega
      case c4 => exact Rd.new _ _ _ _ _ (by simp [U8]) (by simp)
      intro A' c' w' _ _ hown' hg hat
      have hb' : Below w.heap.size w w' := (hb.alloc hb.size _).trans (Below.appended (hown.alloc _) hg (by have := hb.size; simp; omega))
      go_wp2
      go_roundw
      case rel =>
        refine ⟨k + 1, z / 256, by omega, by go_num, ?_, by go_num, ?_, hb'⟩
        · rw [HZ.out, pow_next]
        · rw [four_next k x hlt, U8_append, ← HZ.out]; exact hown'
      case measure => simp [intOf]; omega
    · obtain rfl : k = 4 := by omega
      go_wp2
      go_ret
      exact .mk rfl hown hb

theorem ofInt_mod8 (x : Nat) : (x : Int) % 256 = ((x % 256 : Nat) : Int) := by omega

theorem _root_.Go.World.ownsRow.base_le {w : World} {base base' : Nat} {e : TypeId} {size : Nat} {v : Value} {n : Nat} {xs : List Value} (h : w.ownsRow base e size v n xs) (hb : base' ≤ base) : w.ownsRow base' e size v n xs := by
  refine ⟨h.1, ?_⟩
  rcases h.2 with h' | ⟨g, cap, cur, rfl, hg, rest⟩
  · exact .inl h'
  · exact .inr ⟨g, cap, cur, rfl, by omega, rest⟩

set_option maxHeartbeats 400000 in
theorem put_any (A : Option Addr) (n c B : Nat) (bs : List Nat) (x : Nat) (w : World) (h : Rd w B A n (U8 bs)) (hx : x < 4294967296) (hnc : n ≤ c) (hn : n ≤ 140737488355320) :
    Calls Try.prog 18 #[.slice A n c, .int .u32 (x : Int)] w (NewU8 w (bs ++ four x)) := by
  obtain ⟨i0, hi0, hz0, hz1, hz2⟩ := info_parts info_u8
  have hl : bs.length = n := by rw [← h.len, U8_len]
  go_enter Try.func18, Try.ntmps18
  go_wp2_with (first
    | (at_builtin; refine wpList_append_grows _ rfl _ _ 26 rfl 5 i0 (.int .u8 0) 1 1 Try.underlying26 hi0 hz0 hz1 hz2 rfl (by omega) A n n (U8 bs) rfl ?c1 ?c2 ?c3 ⟨w.heap.size, 0, none⟩ 4 4 (U8 (four x)) rfl ?c4 ?c5 (U8_one _) ?c6 ?c7 ?c8 ?_))
  case c1 => rintro rfl; exact ⟨h.none_, h.none_⟩
  case c2 => simp [U8_len, hl]
  case c3 => intro b hb; exact (h.alloc _).cells hb
  case c4 => simp [U8_len, four]
  case c5 => exact (Rd.new _ _ _ 4 _ (by simp [U8, four]; omega) (by simp)).cells rfl
  case c6 => omega
  case c7 => simp only [maxLen]; omega
  case c8 => omega
  intro v' w' hown' hg
  go_wp2
  go_ret
  refine .mk rfl ?_ ?_
  · rw [U8_append, List.length_append, hl]
    exact hown'.base_le (by simp)
  · exact ((Below.refl _ _).alloc (Nat.le_refl _) _).trans ((Below.refl _ _).grown hg (by simp) (fun k hk => by cases hk))

theorem get_go (x : Nat) (hx : x < 4294967296) :
    bits .or .u32 (bits .or .u32 (bits .or .u32 ((x : Int) % 256) ((x : Int) / 256 % 256 * 256)) ((x : Int) / 65536 % 256 * 65536)) ((x : Int) / 16777216 % 256 * 16777216) = (x : Int) := by
  have e0 : ((x : Int) % 256) = ((x % 256 : Nat) : Int) := by omega
  have e1 : ((x : Int) / 256 % 256 * 256) = ((x / 256 % 256 * 256 : Nat) : Int) := by omega
  have e2 : ((x : Int) / 65536 % 256 * 65536) = ((x / 65536 % 256 * 65536 : Nat) : Int) := by omega
  have e3 : ((x : Int) / 16777216 % 256 * 16777216) = ((x / 16777216 % 256 * 16777216 : Nat) : Int) := by omega
  rw [e0, e1, e2, e3, u32_or_nat _ _ (by omega) (by omega), Nat.or_comm, nat_join 8 _ _ (by omega) (by omega),
    u32_or_nat _ _ (by omega) (by omega), Nat.or_comm, nat_join 16 _ _ (by omega) (by omega),
    u32_or_nat _ _ (by omega) (by omega), Nat.or_comm, nat_join 24 _ _ (by omega) (by omega)]
  omega
theorem get_four (A : Option Addr) (c B : Nat) (x : Nat) (w : World) (h : Rd w B A 4 (U8 (four x))) (hx : x < 4294967296) :
    Calls Try.prog 19 #[.slice A 4 c] w fun e w' => e = .returned (.tuple #[.int .u32 (x : Int), .int .i64 0]) ∧ ∃ k, w' = w.drewN k := by
  obtain ⟨b, o, rfl, hB, hc⟩ := h.at_ (by omega)
  have c0 := hc 0 (by simp [U8_len, four])
  have c1 := hc 1 (by simp [U8_len, four])
  have c2 := hc 2 (by simp [U8_len, four])
  have c3 := hc 3 (by simp [U8_len, four])
  simp only [U8_get, four, List.getElem_cons_zero, List.getElem_cons_succ, Nat.add_zero] at c0 c1 c2 c3
  clear hc
  go_enter Try.func19, Try.ntmps19
  go_wp2
  go_quiet (fail)
  go_wp2
  go_ret2
  exact ⟨congrArg (fun (y : Int) => Ending.returned (.tuple #[.int .u32 y, .int .i64 0])) (get_go x hx), nq, rfl⟩
theorem get_len (A : Option Addr) (n c B : Nat) (bs : List Nat) (w : World) (h : Rd w B A n (U8 bs)) (hn : n = 4) :
    Calls Try.prog 19 #[.slice A n c] w fun e w' => ∃ y : Int, e = .returned (.tuple #[.int .u32 y, .int .i64 0]) ∧ ∃ k, w' = w.drewN k := by
  subst hn
  have hl : bs.length = 4 := by rw [← U8_len, h.len]
  obtain ⟨b, o, rfl, hB, hc⟩ := h.at_ (by omega)
  obtain ⟨b0, b1, b2, b3, rfl⟩ : ∃ b0 b1 b2 b3, bs = [b0, b1, b2, b3] := by
    match bs, hl with
    | [b0, b1, b2, b3], _ => exact ⟨_, _, _, _, rfl⟩
  have c0 := hc 0 (by simp [U8_len])
  have c1 := hc 1 (by simp [U8_len])
  have c2 := hc 2 (by simp [U8_len])
  have c3 := hc 3 (by simp [U8_len])
  simp only [U8_get, List.getElem_cons_zero, List.getElem_cons_succ, Nat.add_zero] at c0 c1 c2 c3
  clear hc
  go_enter Try.func19, Try.ntmps19
  go_wp2
  go_quiet (fail)
  go_wp2
  go_ret2
  exact ⟨_, rfl, nq, rfl⟩
theorem get_no (A : Option Addr) (n c : Nat) (w : World) (h : n ≠ 4) :
    Calls Try.prog 19 #[.slice A n c] w fun e w' => e = .returned (.tuple #[.int .u32 0, .int .i64 3]) ∧ w = w' := by
  have hd : ((n : Int) != 4) = true := by rw [bne_iff_ne]; omega
  go_enter Try.func19, Try.ntmps19
  go_wp2
  go_ret2
  exact ⟨rfl, rfl⟩
end Go.Proofs.Ytaccekfnbofkpaa
