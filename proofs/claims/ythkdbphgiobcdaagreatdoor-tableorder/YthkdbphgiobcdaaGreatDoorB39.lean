/-
  The hash: as plain mathematics, over Nat, byte by byte; what Sum and More of the program and of the reference answer. No condition but that a text has a length.
  The table of a configuration as plain mathematics: filled, in order; its error; its digest; in whatever order it was told; made again. No condition.
-/
import Derived.Test.YthkdbphgiobcdaaGreatDoorRows
import Derived.WalkKit
import Derived.Laws.Bits64b
import Derived.Laws.BitsAllLaws
import Derived.Test.YthkdbphgiobcdaaGreatDoorB12
import Derived.Test.YthkdbphgiobcdaaGreatDoorB25
import Derived.Test.YthkdbphgiobcdaaGreatDoorB34
import Derived.Test.YthkdbphgiobcdaaGreatDoorB38
namespace Go.Proofs.YthkdbphgiobcdaaGreatDoor.Fn
open Go.RowKit

/-- One byte's step. -/
def stp (h : Nat) (b : UInt8) : Nat := (h ^^^ b.toNat) * 1099511628211 % 18446744073709551616
/-- The hash of a list of bytes, begun with h. -/
def hsh (h : Nat) (l : List UInt8) : Nat := l.foldl stp h

theorem stp_lt (h : Nat) (b : UInt8) : stp h b < 18446744073709551616 := by unfold stp; omega

theorem hsh_nil (h : Nat) : hsh h [] = h := rfl
theorem hsh_app (h : Nat) (l m : List UInt8) : hsh h (l ++ m) = hsh (hsh h l) m := by unfold hsh; rw [List.foldl_append]
theorem hsh_cons (h : Nat) (b : UInt8) (l : List UInt8) : hsh h (b :: l) = hsh (stp h b) l := by unfold hsh; rw [List.foldl_cons]
theorem hsh_snoc (h : Nat) (l : List UInt8) (b : UInt8) : hsh h (l ++ [b]) = stp (hsh h l) b := by rw [hsh_app, hsh_cons, hsh_nil]

theorem hsh_lt (l : List UInt8) : ∀ (h : Nat), h < 18446744073709551616 → hsh h l < 18446744073709551616 := by
  induction l with
  | nil => intro h hh; rw [hsh_nil]; exact hh
  | cons b l ih => intro h _; rw [hsh_cons]; exact ih _ (stp_lt h b)

theorem xor_byte_lt (h : Nat) (b : UInt8) (hh : h < 18446744073709551616) : h ^^^ b.toNat < 18446744073709551616 := by
  have e : (18446744073709551616 : Nat) = 2 ^ 64 := by decide
  have hb : b.toNat < 256 := b.toNat_lt
  rw [e] at hh ⊢
  exact Nat.xor_lt_two_pow hh (by omega)

theorem back_of (a : Nat) (ha : a < 18446744073709551616) : a * 1099511628211 % 18446744073709551616 * 14886173955864302971 % 18446744073709551616 = a := by omega

theorem mul_inj {a b : Nat} (ha : a < 18446744073709551616) (hb : b < 18446744073709551616) (h : a * 1099511628211 % 18446744073709551616 = b * 1099511628211 % 18446744073709551616) : a = b := by
  rw [← back_of a ha, ← back_of b hb, h]

theorem stp_inj {h k : Nat} {b c : UInt8} (hh : h < 18446744073709551616) (hk : k < 18446744073709551616) (he : stp h b = stp k c) : h ^^^ b.toNat = k ^^^ c.toNat :=
  mul_inj (xor_byte_lt h b hh) (xor_byte_lt k c hk) he

theorem xor_left {a b c : Nat} (h : a ^^^ b = a ^^^ c) : b = c := by
  have := congrArg (fun x => a ^^^ x) h
  simpa [← Nat.xor_assoc] using this

/-- From two other beginnings one text leads to two other hashes. -/
theorem hsh_inj (l : List UInt8) : ∀ (g h : Nat), g < 18446744073709551616 → h < 18446744073709551616 → hsh g l = hsh h l → g = h := by
  induction l with
  | nil => intro g h _ _ he; rw [hsh_nil, hsh_nil] at he; exact he
  | cons b l ih =>
    intro g h hg hh he
    rw [hsh_cons, hsh_cons] at he
    have h1 := stp_inj hg hh (ih _ _ (stp_lt g b) (stp_lt h b) he)
    rw [Nat.xor_comm g, Nat.xor_comm h] at h1
    exact xor_left h1

/-- Only the last byte is another. -/
theorem last_inj {h : Nat} {a b : UInt8} (hh : h < 18446744073709551616) (he : stp h a = stp h b) : a = b :=
  UInt8.toNat_inj.1 (xor_left (stp_inj hh hh he))

def start : Nat := 14695981039346656037
theorem start_lt : start < 18446744073709551616 := by unfold start; omega
/-- The hash of a text, begun with h. -/
def more (h : Nat) (s : ByteArray) : Nat := hsh h s.data.toList
def sum (s : ByteArray) : Nat := more start s
def flow (s t : ByteArray) : Nat := more (stp (sum s) 0) t
theorem more_eq (h : Nat) (s : ByteArray) : more h s = hsh h s.data.toList := rfl
theorem sum_eq (s : ByteArray) : sum s = more start s := rfl
theorem flow_eq (s t : ByteArray) : flow s t = more (stp (sum s) 0) t := rfl
theorem more_lt {h : Nat} (hh : h < 18446744073709551616) (s : ByteArray) : more h s < 18446744073709551616 := hsh_lt _ _ hh
theorem sum_lt (s : ByteArray) : sum s < 18446744073709551616 := more_lt start_lt s
theorem flow_lt (s t : ByteArray) : flow s t < 18446744073709551616 := more_lt (stp_lt _ _) t


/-- The hash of the first k bytes. -/
def upTo (h : Nat) (s : ByteArray) (k : Nat) : Nat := hsh h (s.data.toList.take k)

def intOf : Value → Int
  | .int _ n => n
  | _ => 0

theorem upTo_zero (h : Nat) (s : ByteArray) : upTo h s 0 = h := by unfold upTo; rw [List.take_zero, hsh_nil]
theorem upTo_lt {h : Nat} (hh : h < 18446744073709551616) (s : ByteArray) (k : Nat) : upTo h s k < 18446744073709551616 := hsh_lt _ _ hh
theorem upTo_all (h : Nat) (s : ByteArray) : upTo h s s.size = more h s := by
  unfold upTo
  rw [more_eq]
  rw [List.take_of_length_le]
  rw [Array.length_toList]
  exact Nat.le_refl _
theorem upTo_succ (h : Nat) (s : ByteArray) (k : Nat) (hk : k < s.size) : upTo h s (k + 1) = stp (upTo h s k) s[k] := by
  unfold upTo
  have hl : k < s.data.toList.length := by rw [Array.length_toList]; exact hk
  rw [List.take_add_one, List.getElem?_eq_getElem hl, Option.toList_some, hsh_snoc]
  rfl

theorem byte_lt (b : UInt8) : b.toNat < 256 := b.toNat_lt

theorem byte_wrap (b : UInt8) : IntKind.u64.wrap (b.toNat : Int) = (b.toNat : Int) := by
  have := byte_lt b
  rw [IntKind.wrap_u64]
  omega

theorem step_eq (x : Nat) (hx : x < 18446744073709551616) (b : UInt8) :
    IntKind.u64.wrap (bits .xor .u64 (x : Int) (IntKind.u64.wrap (b.toNat : Int)) * 1099511628211) = ((stp x b : Nat) : Int) := by
  have := byte_lt b
  rw [byte_wrap, bits_xor_u64_nat x b.toNat hx (by omega), IntKind.wrap_u64]
  unfold stp
  generalize x ^^^ b.toNat = y
  omega

theorem more_ok (h : Nat) (s : ByteArray) (hh : h < 18446744073709551616) (hs : s.size ≤ 9223372036854775807) (w : World) :
    Calls Tryz.prog 60 #[.int .u64 h, .string s] w fun e w' => e = .returned (.int .u64 (more h s : Nat)) ∧ w' = w := by
  go_enter Tryz.func60, Tryz.ntmps60
  go_wp2
  go_loop [0, 8] (fun x i => ∃ k : Nat, k ≤ s.size ∧ i = .int .i64 k ∧ x = .int .u64 (upTo h s k : Nat)) (fun _ i => s.size - (intOf i).toNat)
  case atStart => exact ⟨0, Nat.zero_le _, rfl, by rw [upTo_zero]⟩
  case round =>
    obtain ⟨k, hk, rfl, rfl⟩ := hrel
    by_cases hlt : k < s.size
    · have e : IntKind.u64.wrap (bits .xor .u64 ((upTo h s k : Nat) : Int) (IntKind.u64.wrap (s[k].toNat : Int)) * 1099511628211) = ((upTo h s (k + 1) : Nat) : Int) := by
        rw [upTo_succ h s k hlt]; exact step_eq _ (upTo_lt hh s k) _
      go_wp2
      go_round
      case rel => exact ⟨k + 1, by omega, by go_num, rfl⟩
      case measure => simp [intOf]; omega
    · obtain rfl : k = s.size := by omega
      go_wp2
      go_ret
      exact ⟨by rw [upTo_all]; rfl, rfl⟩

theorem start_eq : ((start : Nat) : Int) = 14695981039346656037 := by unfold start; rfl

theorem sum_ok (s : ByteArray) (hs : s.size ≤ 9223372036854775807) (w : World) :
    Calls Tryz.prog 26 #[.string s] w fun e w' => e = .returned (.int .u64 (sum s : Nat)) ∧ w' = w := by
  go_enter Tryz.func26, Tryz.ntmps26
  go_wp2_with fail
  go_at_call 60
  have H := more_ok start s start_lt hs w
  rw [← sum_eq, start_eq] at H
  refine H.mono ?_
  rintro e w' ⟨rfl, rfl⟩
  go_wp2
  go_ret
  exact ⟨rfl, rfl⟩



theorem mask_bit (i : Nat) : (18446744073709551615 - 255 : Nat).testBit i = (decide (i < 64) && !decide (i < 8)) := by
  have e : (18446744073709551615 - 255 : Nat) = 2 ^ 64 - (255 + 1) := by decide
  rw [e, Nat.testBit_two_pow_sub_succ (by decide)]
  have e2 : (255 : Nat) = 2 ^ 8 - 1 := by decide
  rw [e2, Nat.testBit_two_pow_sub_one]

theorem low_eight (x b : Nat) (hx : x < 18446744073709551616) (hb : b < 256) : (x &&& (18446744073709551615 - 255)) ||| (x % 256 ^^^ b) = x ^^^ b := by
  apply Nat.eq_of_testBit_eq
  intro i
  have e : x % 256 = x % 2 ^ 8 := rfl
  rw [Nat.testBit_or, Nat.testBit_and, Nat.testBit_xor, Nat.testBit_xor, mask_bit, e, Nat.testBit_mod_two_pow]
  by_cases c : i < 8
  · simp [c]
  · have hbi : b.testBit i = false := Nat.testBit_lt_two_pow (Nat.lt_of_lt_of_le hb (by
      have : 2 ^ 8 ≤ 2 ^ i := Nat.pow_le_pow_right (by decide) (by omega)
      exact this))
    by_cases d : i < 64
    · simp [c, d, hbi]
    · have hxi : x.testBit i = false := Nat.testBit_lt_two_pow (Nat.lt_of_lt_of_le hx (by
        have : 2 ^ 64 ≤ 2 ^ i := Nat.pow_le_pow_right (by decide) (by omega)
        exact this))
      simp [c, d, hbi, hxi]

theorem turned (x : Nat) (hx : x < 18446744073709551616) (b : UInt8) :
    bits .or .u64 (bits .andNot .u64 (x : Int) 255) (bits .xor .u64 ((x : Int) % 256) (IntKind.u64.wrap (b.toNat : Int))) = ((x ^^^ b.toNat : Nat) : Int) := by
  have hb := byte_lt b
  have e1 : bits .andNot .u64 (x : Int) 255 = ((x &&& (18446744073709551615 - 255) : Nat) : Int) := u64_andNot_nat x 255 hx (by omega)
  have e2 : ((x : Int) % 256) = ((x % 256 : Nat) : Int) := by omega
  have l1 : x &&& (18446744073709551615 - 255) < 18446744073709551616 := Nat.lt_of_le_of_lt Nat.and_le_left hx
  have l2 : x % 256 ^^^ b.toNat < 18446744073709551616 := xor_byte_lt _ b (by omega)
  rw [e1, e2, byte_wrap, bits_xor_u64_nat _ _ (by omega) (by omega), bits_or_u64_nat _ _ l1 l2, low_eight x b.toNat hx hb]

theorem rstep_eq (x : Nat) (hx : x < 18446744073709551616) (b : UInt8) :
    IntKind.u64.wrap (IntKind.u64.wrap (IntKind.u64.wrap (bits .or .u64 (bits .andNot .u64 (x : Int) 255) (bits .xor .u64 ((x : Int) % 256) (IntKind.u64.wrap (b.toNat : Int))) * 1099511627776)
      + IntKind.u64.wrap (bits .or .u64 (bits .andNot .u64 (x : Int) 255) (bits .xor .u64 ((x : Int) % 256) (IntKind.u64.wrap (b.toNat : Int))) * 256))
      + IntKind.u64.wrap (179 * bits .or .u64 (bits .andNot .u64 (x : Int) 255) (bits .xor .u64 ((x : Int) % 256) (IntKind.u64.wrap (b.toNat : Int))))) = ((stp x b : Nat) : Int) := by
  rw [turned x hx b]
  simp only [IntKind.wrap_u64]
  unfold stp
  generalize x ^^^ b.toNat = y
  omega

theorem rmore_ok (h : Nat) (s : ByteArray) (hh : h < 18446744073709551616) (hs : s.size ≤ 9223372036854775807) (w : World) :
    Calls Tryz.prog 67 #[.int .u64 h, .string s] w fun e w' => e = .returned (.int .u64 (more h s : Nat)) ∧ w' = w := by
  go_enter Tryz.func67, Tryz.ntmps67
  go_wp2
  go_loop [0, 5] (fun x i => ∃ k : Nat, k ≤ s.size ∧ i = .int .i64 k ∧ x = .int .u64 (upTo h s k : Nat)) (fun _ i => s.size - (intOf i).toNat)
  case atStart => exact ⟨0, Nat.zero_le _, rfl, by rw [upTo_zero]⟩
  case round =>
    obtain ⟨k, hk, rfl, rfl⟩ := hrel
    by_cases hlt : k < s.size
    · have lt := upTo_lt hh s k
      go_wp2
      go_round
      case rel => exact ⟨k + 1, by omega, by go_num, by rw [rstep_eq _ lt, ← upTo_succ h s k hlt]⟩
      case measure => simp [intOf]; omega
    · obtain rfl : k = s.size := by omega
      go_wp2
      go_ret
      exact ⟨by rw [upTo_all]; rfl, rfl⟩

theorem rsum_ok (s : ByteArray) (hs : s.size ≤ 9223372036854775807) (w : World) :
    Calls Tryz.prog 30 #[.string s] w fun e w' => e = .returned (.int .u64 (sum s : Nat)) ∧ w' = w := by
  go_enter Tryz.func30, Tryz.ntmps30
  go_wp2_with fail
  go_at_call 67
  have H := rmore_ok start s start_lt hs w
  rw [← sum_eq, start_eq] at H
  refine H.mono ?_
  rintro e w' ⟨rfl, rfl⟩
  go_wp2
  go_ret
  exact ⟨rfl, rfl⟩
end Go.Proofs.YthkdbphgiobcdaaGreatDoor.Fn

namespace Go.Proofs.YthkdbphgiobcdaaGreatDoor

def tblC (C : Cf) : Cf := ⟨(fillC C).total, (fillC C).period, (fillC C).perSeat, (fillC C).most, srtB ltL (fillC C).levels, srtB ltS (fillC C).schemas⟩
/-- The error: its number, and what it is of. -/
def mkE (C : Cf) : Int × ByteArray := if (chk (fillC C)).1 = 0 then (printE (tblC C), ⟨#[]⟩) else chk (fillC C)
def mkC (C : Cf) : Cf := if (mkE C).1 = 0 then tblC C else cf0
def mkD (C : Cf) : Nat := if (mkE C).1 = 0 then Fn.sum (outB (tblC C)) else 0

theorem aptL {L : List Lv} (h : L.Pairwise fun a b => a.name ≠ b.name) : Apt ltL L := h.imp fun e => txLt_apart e
theorem aptS {S : List Sc} (h : S.Pairwise fun a b => a.name ≠ b.name) : Apt ltS S := h.imp fun {a b} e => by
  unfold ltS
  simp only [Bool.or_eq_true, Bool.and_eq_true, decide_eq_true_eq]
  rcases Int.lt_trichotomy a.rank b.rank with h | h | h
  · exact .inl (.inl h)
  · exact (txLt_apart e).elim (fun k => .inl (.inr ⟨h, k⟩)) (fun k => .inr (.inr ⟨h.symm, k⟩))
  · exact .inr (.inl h)
theorem Passes.aptL {C : Cf} (h : Passes C) : Apt ltL C.levels := Go.Proofs.YthkdbphgiobcdaaGreatDoor.aptL h.f.pl
theorem Passes.aptS {C : Cf} (h : Passes C) : Apt ltS C.schemas := Go.Proofs.YthkdbphgiobcdaaGreatDoor.aptS h.f.ps

theorem fillL_pos (L : List Lv) : 0 < (fillL L).length := by
  rcases hn : fillL L with - | ⟨x, r⟩
  · have := (fillL_has L).1; rw [hn] at this; cases this
  · simp
theorem fillS_pos (L : List Sc) : 0 < (fillS L).length := by
  rcases hn : fillS L with - | ⟨x, r⟩
  · have := (fillS_has L).1; rw [hn] at this; cases this
  · simp

/-- What passes is printed, or too long. -/
theorem Passes.tbl {C : Cf} (h : Passes (fillC C)) : Passes (tblC C) := h.turn (srtB_perm _) (srtB_perm _)
theorem printE_passes {C : Cf} (h : Passes C) : printE C = if 65536 < (outB C).size then 3 else 0 := by
  unfold printE; rw [if_pos (formed_iff.2 h.f)]

theorem orU_of {x : Int} (u : Int) (h : x ≠ 0) : orU x u = x := if_neg h
/-- What passes is filled already. -/
theorem fillL_keep {L : List Lv} (h : anyL L tExempt = true) (h' : anyL L tCatch = true) : fillL L = L := by unfold fillL putX; rw [if_pos h', if_pos h]
theorem fillS_keep {L : List Sc} (h : anyS L tExempt = true) (h' : anyS L tCatch = true) : fillS L = L := by unfold fillS putX; rw [if_pos h', if_pos h]
theorem most_ne {C : Cf} : (fillC C).most ≠ 0 := orU_ne _ _ (by decide)
theorem fill_tbl {C : Cf} (h : Passes (fillC C)) : fillC (tblC C) = tblC C := by
  have p := h.tbl.p
  have n := h.n
  have m : (fillC C).most ≠ 0 := most_ne
  show (⟨orU (fillC C).total 100, orU (fillC C).period 10, orU (fillC C).perSeat 100, orU (fillC C).most 10, fillL (tblC C).levels, fillS (tblC C).schemas⟩ : Cf) = tblC C
  rw [orU_of _ n.1, orU_of _ n.2.1, orU_of _ n.2.2, orU_of _ m, fillL_keep p.1 p.2.1, fillS_keep p.2.2.1 p.2.2.2]
  rfl
/-- A table's configuration makes the same table. -/
theorem tbl_again {C : Cf} (h : Passes (fillC C)) : tblC (tblC C) = tblC C := by
  show (⟨(fillC (tblC C)).total, (fillC (tblC C)).period, (fillC (tblC C)).perSeat, (fillC (tblC C)).most, srtB ltL (fillC (tblC C)).levels, srtB ltS (fillC (tblC C)).schemas⟩ : Cf) = tblC C
  rw [fill_tbl h]
  show (⟨_, _, _, _, srtB ltL (srtB ltL (fillC C).levels), srtB ltS (srtB ltS (fillC C).schemas)⟩ : Cf) = tblC C
  rw [srtB_idem strictL h.aptL, srtB_idem strictS h.aptS]
  rfl
theorem mkE_ok {C : Cf} (h : (mkE C).1 = 0) : Passes (fillC C) ∧ printE (tblC C) = 0 := by
  unfold mkE at h
  by_cases c : (chk (fillC C)).1 = 0
  · rw [if_pos c] at h; exact ⟨chk_zero.1 c, h⟩
  · rw [if_neg c] at h; exact absurd h c
theorem mk_again {C : Cf} (h : (mkE C).1 = 0) : mkE (tblC C) = (0, ⟨#[]⟩) ∧ mkC (tblC C) = tblC C ∧ mkD (tblC C) = mkD C := by
  obtain ⟨p, q⟩ := mkE_ok h
  have e1 : mkE (tblC C) = (0, ⟨#[]⟩) := by
    unfold mkE
    rw [fill_tbl p, if_pos (chk_zero.2 p.tbl), tbl_again p, q]
  refine ⟨e1, ?_, ?_⟩
  · unfold mkC; rw [e1, if_pos rfl, tbl_again p]
  · unfold mkD; rw [e1, if_pos rfl, tbl_again p, if_pos h]

/-! Whatever order. -/
theorem putX_perm {α : Type} (b : Bool) {L M : List α} (h : L.Perm M) (x : α) : (putX b L x).Perm (putX b M x) := by
  unfold putX
  cases b
  · exact h.append_right _
  · exact h
theorem fillL_perm {L M : List Lv} (h : L.Perm M) : (fillL L).Perm (fillL M) := by
  unfold fillL
  rw [anyL_perm h, anyL_perm h]
  exact putX_perm _ (putX_perm _ h _) _
theorem fillS_perm {L M : List Sc} (h : L.Perm M) : (fillS L).Perm (fillS M) := by
  unfold fillS
  rw [anyS_perm h, anyS_perm h]
  exact putX_perm _ (putX_perm _ h _) _
theorem mk_turn {C : Cf} {L : List Lv} {S : List Sc} (hL : L.Perm C.levels) (hS : S.Perm C.schemas) :
    ((mkE ⟨C.total, C.period, C.perSeat, C.most, L, S⟩).1 = 0 ↔ (mkE C).1 = 0) ∧ mkC ⟨C.total, C.period, C.perSeat, C.most, L, S⟩ = mkC C ∧ mkD ⟨C.total, C.period, C.perSeat, C.most, L, S⟩ = mkD C := by
  have P : Passes (fillC ⟨C.total, C.period, C.perSeat, C.most, L, S⟩) ↔ Passes (fillC C) := passes_turn (C := fillC C) (fillL_perm hL) (fillS_perm hS)
  by_cases c : Passes (fillC C)
  · have T : tblC ⟨C.total, C.period, C.perSeat, C.most, L, S⟩ = tblC C := by
      show (⟨_, _, _, _, srtB ltL (fillL L), srtB ltS (fillS S)⟩ : Cf) = tblC C
      rw [srtB_congr strictL c.aptL (fillL_perm hL), srtB_congr strictS c.aptS (fillS_perm hS)]
      rfl
    have E : mkE ⟨C.total, C.period, C.perSeat, C.most, L, S⟩ = mkE C := by
      unfold mkE
      rw [if_pos (chk_zero.2 c), if_pos (chk_zero.2 (P.2 c)), T]
    refine ⟨by rw [E], ?_, ?_⟩
    · unfold mkC; rw [E, T]
    · unfold mkD; rw [E, T]
  · have n1 : ¬ (mkE C).1 = 0 := fun h => c (mkE_ok h).1
    have n2 : ¬ (mkE ⟨C.total, C.period, C.perSeat, C.most, L, S⟩).1 = 0 := fun h => c (P.1 (mkE_ok h).1)
    refine ⟨⟨fun h => absurd h n2, fun h => absurd h n1⟩, ?_, ?_⟩
    · unfold mkC; rw [if_neg n1, if_neg n2]
    · unfold mkD; rw [if_neg n1, if_neg n2]

/-- In whatever order it fits. -/
theorem Fits.turn {C : Cf} (h : Fits C) {L : List Lv} {S : List Sc} (hL : L.Perm C.levels) (hS : S.Perm C.schemas) : Fits ⟨C.total, C.period, C.perSeat, C.most, L, S⟩ :=
  ⟨⟨by show L.length ≤ _; rw [hL.length_eq]; exact h.sz.1, by show S.length ≤ _; rw [hS.length_eq]; exact h.sz.2⟩, ⟨fun l hl => h.nm.1 l (hL.mem_iff.1 hl), fun s hs => h.nm.2 s (hS.mem_iff.1 hs)⟩, fun s hs => h.rl s (hS.mem_iff.1 hs)⟩
theorem Bnd.turn {n : Nat} {C : Cf} (h : Bnd n C) {L : List Lv} {S : List Sc} (hL : L.Perm C.levels) (hS : S.Perm C.schemas) : Bnd n ⟨C.total, C.period, C.perSeat, C.most, L, S⟩ :=
  ⟨by show L.length ≤ _; rw [hL.length_eq]; exact h.lv, by show S.length ≤ _; rw [hS.length_eq]; exact h.sc, fun s hs => h.rl s (hS.mem_iff.1 hs)⟩
end Go.Proofs.YthkdbphgiobcdaaGreatDoor
