/-
  The hash: as plain mathematics, over Nat, byte by byte; what Sum, More and Flow of the program and of the reference answer. No condition but that a text has a length; of the reference's Flow: that both texts are short.
-/
import Derived.Test.YtijjpblmnlednaaRows
import Derived.WalkKit
import Derived.Laws.Bits64b
import Derived.Laws.BitsAllLaws
import Derived.Deep.AppendSrc
import Derived.Deep.MidRow
import Derived.Laws.IdiomStrings
import Derived.OwnWalk
import Derived.Deep.AppendLies
import Derived.Below
namespace Go.Proofs.Ytijjpblmnlednaa.Fn
open Go.RowKit

/-- One byte's step. -/
def stp (h : Nat) (b : UInt8) : Nat := (h ^^^ b.toNat) * 1099511628211 % 18446744073709551616
/-- The hash of a list of bytes, begun with h. -/
def hsh (h : Nat) (l : List UInt8) : Nat := l.foldl stp h

theorem stp_lt (h : Nat) (b : UInt8) : stp h b < 18446744073709551616 := by unfold stp; omega

theorem hsh_nil (h : Nat) : hsh h [] = h := rfl
theorem hsh_app (h : Nat) (l m : List UInt8) : hsh h (l ++ m) = hsh (hsh h l) m := by unfold hsh; rw [List.foldl_append]
theorem hsh_cons (h : Nat) (b : UInt8) (l : List UInt8) : hsh h (b :: l) = hsh (stp h b) l := by unfold hsh; rw [List.foldl_cons]
theorem hsh_snoc (h : Nat) (l : List UInt8) (b : UInt8) : hsh h (l ++ [b]) = stp (hsh h l) b := by rw [hsh_app, hsh_cons, hsh_nil]

theorem hsh_lt (l : List UInt8) : ∀ (h : Nat), h < 18446744073709551616 → hsh h l < 18446744073709551616 := by
  induction l with
  | nil => intro h hh; rw [hsh_nil]; exact hh
  | cons b l ih => intro h _; rw [hsh_cons]; exact ih _ (stp_lt h b)

theorem xor_byte_lt (h : Nat) (b : UInt8) (hh : h < 18446744073709551616) : h ^^^ b.toNat < 18446744073709551616 := by
  have e : (18446744073709551616 : Nat) = 2 ^ 64 := by decide
  have hb : b.toNat < 256 := b.toNat_lt
  rw [e] at hh ⊢
  exact Nat.xor_lt_two_pow hh (by omega)







def start : Nat := 14695981039346656037
theorem start_lt : start < 18446744073709551616 := by unfold start; omega
/-- The hash of a text, begun with h. -/
def more (h : Nat) (s : ByteArray) : Nat := hsh h s.data.toList
def sum (s : ByteArray) : Nat := more start s
def flow (s t : ByteArray) : Nat := more (stp (sum s) 0) t
theorem more_eq (h : Nat) (s : ByteArray) : more h s = hsh h s.data.toList := rfl
theorem sum_eq (s : ByteArray) : sum s = more start s := rfl
theorem flow_eq (s t : ByteArray) : flow s t = more (stp (sum s) 0) t := rfl
theorem more_lt {h : Nat} (hh : h < 18446744073709551616) (s : ByteArray) : more h s < 18446744073709551616 := hsh_lt _ _ hh
theorem sum_lt (s : ByteArray) : sum s < 18446744073709551616 := more_lt start_lt s
theorem flow_lt (s t : ByteArray) : flow s t < 18446744073709551616 := more_lt (stp_lt _ _) t

/-- The hash of the first k bytes. -/
def upTo (h : Nat) (s : ByteArray) (k : Nat) : Nat := hsh h (s.data.toList.take k)

def intOf : Value → Int
  | .int _ n => n
  | _ => 0

theorem upTo_zero (h : Nat) (s : ByteArray) : upTo h s 0 = h := by unfold upTo; rw [List.take_zero, hsh_nil]
theorem upTo_lt {h : Nat} (hh : h < 18446744073709551616) (s : ByteArray) (k : Nat) : upTo h s k < 18446744073709551616 := hsh_lt _ _ hh
theorem upTo_all (h : Nat) (s : ByteArray) : upTo h s s.size = more h s := by
  unfold upTo
  rw [more_eq]
  rw [List.take_of_length_le]
  rw [Array.length_toList]
  exact Nat.le_refl _
theorem upTo_succ (h : Nat) (s : ByteArray) (k : Nat) (hk : k < s.size) : upTo h s (k + 1) = stp (upTo h s k) s[k] := by
  unfold upTo
  have hl : k < s.data.toList.length := by rw [Array.length_toList]; exact hk
  rw [List.take_add_one, List.getElem?_eq_getElem hl, Option.toList_some, hsh_snoc]
  rfl

theorem byte_lt (b : UInt8) : b.toNat < 256 := b.toNat_lt

theorem byte_wrap (b : UInt8) : IntKind.u64.wrap (b.toNat : Int) = (b.toNat : Int) := by
  have := byte_lt b
  rw [IntKind.wrap_u64]
  omega

theorem step_eq (x : Nat) (hx : x < 18446744073709551616) (b : UInt8) :
    IntKind.u64.wrap (bits .xor .u64 (x : Int) (IntKind.u64.wrap (b.toNat : Int)) * 1099511628211) = ((stp x b : Nat) : Int) := by
  have := byte_lt b
  rw [byte_wrap, bits_xor_u64_nat x b.toNat hx (by omega), IntKind.wrap_u64]
  unfold stp
  generalize x ^^^ b.toNat = y
  omega

theorem more_ok (h : Nat) (s : ByteArray) (hh : h < 18446744073709551616) (hs : s.size ≤ 9223372036854775807) (w : World) :
    Calls Try.prog 29 #[.int .u64 h, .string s] w fun e w' => e = .returned (.int .u64 (more h s : Nat)) ∧ w' = w := by
  go_enter Try.func29, Try.ntmps29
  go_wp2
  go_loop [0, 8] (fun x i => ∃ k : Nat, k ≤ s.size ∧ i = .int .i64 k ∧ x = .int .u64 (upTo h s k : Nat)) (fun _ i => s.size - (intOf i).toNat)
  case atStart => exact ⟨0, Nat.zero_le _, rfl, by rw [upTo_zero]⟩
  case round =>
    obtain ⟨k, hk, rfl, rfl⟩ := hrel
    by_cases hlt : k < s.size
    · have e : IntKind.u64.wrap (bits .xor .u64 ((upTo h s k : Nat) : Int) (IntKind.u64.wrap (s[k].toNat : Int)) * 1099511628211) = ((upTo h s (k + 1) : Nat) : Int) := by
        rw [upTo_succ h s k hlt]; exact step_eq _ (upTo_lt hh s k) _
      go_wp2
      go_round
      case rel => exact ⟨k + 1, by omega, by go_num, rfl⟩
      case measure => simp [intOf]; omega
    · obtain rfl : k = s.size := by omega
      go_wp2
      go_ret
      exact ⟨by rw [upTo_all]; rfl, rfl⟩

theorem start_eq : ((start : Nat) : Int) = 14695981039346656037 := by unfold start; rfl

theorem sum_ok (s : ByteArray) (hs : s.size ≤ 9223372036854775807) (w : World) :
    Calls Try.prog 30 #[.string s] w fun e w' => e = .returned (.int .u64 (sum s : Nat)) ∧ w' = w := by
  go_enter Try.func30, Try.ntmps30
  go_wp2_with fail
  go_at_call 29
  have H := more_ok start s start_lt hs w
  rw [← sum_eq, start_eq] at H
  refine H.mono ?_
  rintro e w' ⟨rfl, rfl⟩
  go_wp2
  go_ret
  exact ⟨rfl, rfl⟩

theorem more_zero (h : Nat) : more h ⟨#[0]⟩ = stp h 0 := by
  rw [more_eq]
  show hsh h [0] = _
  rw [hsh_cons, hsh_nil]

theorem flow_ok (s t : ByteArray) (hs : s.size ≤ 9223372036854775807) (ht : t.size ≤ 9223372036854775807) (w : World) :
    Calls Try.prog 23 #[.string s, .string t] w fun e w' => e = .returned (.int .u64 (flow s t : Nat)) ∧ w' = w := by
  go_enter Try.func23, Try.ntmps23
  go_wp2_with fail
  go_at_call 30
  refine (sum_ok s hs w).mono ?_
  rintro e w' ⟨rfl, hw⟩; obtain rfl := hw.symm
  go_wp2_with fail
  go_at_call 29
  refine (more_ok (sum s) ⟨#[0]⟩ (sum_lt s) (by decide) _).mono ?_
  rintro e w' ⟨rfl, hw⟩; obtain rfl := hw.symm
  rw [more_zero]
  go_wp2_with fail
  go_at_call 29
  have H := more_ok (stp (sum s) 0) t (stp_lt _ _) ht w
  rw [← flow_eq] at H
  refine H.mono ?_
  rintro e w' ⟨rfl, hw⟩; obtain rfl := hw.symm
  go_wp2
  go_ret
  exact ⟨rfl, rfl⟩


theorem mask_bit (i : Nat) : (18446744073709551615 - 255 : Nat).testBit i = (decide (i < 64) && !decide (i < 8)) := by
  have e : (18446744073709551615 - 255 : Nat) = 2 ^ 64 - (255 + 1) := by decide
  rw [e, Nat.testBit_two_pow_sub_succ (by decide)]
  have e2 : (255 : Nat) = 2 ^ 8 - 1 := by decide
  rw [e2, Nat.testBit_two_pow_sub_one]

theorem low_eight (x b : Nat) (hx : x < 18446744073709551616) (hb : b < 256) : (x &&& (18446744073709551615 - 255)) ||| (x % 256 ^^^ b) = x ^^^ b := by
  apply Nat.eq_of_testBit_eq
  intro i
  have e : x % 256 = x % 2 ^ 8 := rfl
  rw [Nat.testBit_or, Nat.testBit_and, Nat.testBit_xor, Nat.testBit_xor, mask_bit, e, Nat.testBit_mod_two_pow]
  by_cases c : i < 8
  · simp [c]
  · have hbi : b.testBit i = false := Nat.testBit_lt_two_pow (Nat.lt_of_lt_of_le hb (by
      have : 2 ^ 8 ≤ 2 ^ i := Nat.pow_le_pow_right (by decide) (by omega)
      exact this))
    by_cases d : i < 64
    · simp [c, d, hbi]
    · have hxi : x.testBit i = false := Nat.testBit_lt_two_pow (Nat.lt_of_lt_of_le hx (by
        have : 2 ^ 64 ≤ 2 ^ i := Nat.pow_le_pow_right (by decide) (by omega)
        exact this))
      simp [c, d, hbi, hxi]

theorem turned (x : Nat) (hx : x < 18446744073709551616) (b : UInt8) :
    bits .or .u64 (bits .andNot .u64 (x : Int) 255) (bits .xor .u64 ((x : Int) % 256) (IntKind.u64.wrap (b.toNat : Int))) = ((x ^^^ b.toNat : Nat) : Int) := by
  have hb := byte_lt b
  have e1 : bits .andNot .u64 (x : Int) 255 = ((x &&& (18446744073709551615 - 255) : Nat) : Int) := u64_andNot_nat x 255 hx (by omega)
  have e2 : ((x : Int) % 256) = ((x % 256 : Nat) : Int) := by omega
  have l1 : x &&& (18446744073709551615 - 255) < 18446744073709551616 := Nat.lt_of_le_of_lt Nat.and_le_left hx
  have l2 : x % 256 ^^^ b.toNat < 18446744073709551616 := xor_byte_lt _ b (by omega)
  rw [e1, e2, byte_wrap, bits_xor_u64_nat _ _ (by omega) (by omega), bits_or_u64_nat _ _ l1 l2, low_eight x b.toNat hx hb]

theorem rstep_eq (x : Nat) (hx : x < 18446744073709551616) (b : UInt8) :
    IntKind.u64.wrap (IntKind.u64.wrap (IntKind.u64.wrap (bits .or .u64 (bits .andNot .u64 (x : Int) 255) (bits .xor .u64 ((x : Int) % 256) (IntKind.u64.wrap (b.toNat : Int))) * 1099511627776)
      + IntKind.u64.wrap (bits .or .u64 (bits .andNot .u64 (x : Int) 255) (bits .xor .u64 ((x : Int) % 256) (IntKind.u64.wrap (b.toNat : Int))) * 256))
      + IntKind.u64.wrap (179 * bits .or .u64 (bits .andNot .u64 (x : Int) 255) (bits .xor .u64 ((x : Int) % 256) (IntKind.u64.wrap (b.toNat : Int))))) = ((stp x b : Nat) : Int) := by
  rw [turned x hx b]
  simp only [IntKind.wrap_u64]
  unfold stp
  generalize x ^^^ b.toNat = y
  omega

theorem rmore_ok (h : Nat) (s : ByteArray) (hh : h < 18446744073709551616) (hs : s.size ≤ 9223372036854775807) (w : World) :
    Calls Try.prog 32 #[.int .u64 h, .string s] w fun e w' => e = .returned (.int .u64 (more h s : Nat)) ∧ w' = w := by
  go_enter Try.func32, Try.ntmps32
  go_wp2
  go_loop [0, 5] (fun x i => ∃ k : Nat, k ≤ s.size ∧ i = .int .i64 k ∧ x = .int .u64 (upTo h s k : Nat)) (fun _ i => s.size - (intOf i).toNat)
  case atStart => exact ⟨0, Nat.zero_le _, rfl, by rw [upTo_zero]⟩
  case round =>
    obtain ⟨k, hk, rfl, rfl⟩ := hrel
    by_cases hlt : k < s.size
    · have lt := upTo_lt hh s k
      go_wp2
      go_round
      case rel => exact ⟨k + 1, by omega, by go_num, by rw [rstep_eq _ lt, ← upTo_succ h s k hlt]⟩
      case measure => simp [intOf]; omega
    · obtain rfl : k = s.size := by omega
      go_wp2
      go_ret
      exact ⟨by rw [upTo_all]; rfl, rfl⟩

theorem rsum_ok (s : ByteArray) (hs : s.size ≤ 9223372036854775807) (w : World) :
    Calls Try.prog 25 #[.string s] w fun e w' => e = .returned (.int .u64 (sum s : Nat)) ∧ w' = w := by
  go_enter Try.func25, Try.ntmps25
  go_wp2_with fail
  go_at_call 32
  have H := rmore_ok start s start_lt hs w
  rw [← sum_eq, start_eq] at H
  refine H.mono ?_
  rintro e w' ⟨rfl, rfl⟩
  go_wp2
  go_ret
  exact ⟨rfl, rfl⟩

/-- Cells laid in a block from B on. -/
theorem below_set {B g : Nat} (hg : B ≤ g) (vs : List Value) : ∀ (o : Nat) (w : World), Below B w (w.setCells g o vs) := by
  induction vs with
  | nil => intro o w; exact Below.refl B w
  | cons v r ih => intro o w; exact ((Below.refl B w).setCell (p := ⟨g, o, none⟩) hg v).trans (ih (o + 1) _)

theorem Try.info5 : (Try.prog.info? 5).map (fun i => (i.zero, i.size, i.bytes)) = some (some (.int .u8 0), 1, 1) := by kernel_rfl

/-- The bytes as cells. -/
def cellsB (l : List UInt8) : List Value := l.map fun b => Value.int .u8 b.toNat
theorem cellsB_len (l : List UInt8) : (cellsB l).length = l.length := by simp [cellsB]
theorem cellsB_one (l : List UInt8) : ∀ u ∈ cellsB l, u.oneCell' = true := by
  intro u hu
  obtain ⟨_, _, rfl⟩ := List.mem_map.1 hu
  rfl
theorem cellsB_at (l : List UInt8) (j : Nat) (hj : j < l.length) : (cellsB l)[j]? = some (.int .u8 (l[j].toNat : Int)) := by simp [cellsB, hj]

/-- v is a slice of the bytes l, in a block from base on, of which no cell is frozen. -/
structure Bts (base : Nat) (w : World) (v : Value) (l : List UInt8) (g cap : Nat) : Prop where
  val : v = .slice (some ⟨g, 0, none⟩) l.length cap
  low : base ≤ g
  lt : g < w.heap.size
  room : l.length ≤ cap
  there : ∀ j, j < cap → (w.cell? ⟨g, j, none⟩).isSome = true
  free : ∀ j, j < cap → w.frozen? ⟨g, j, none⟩ = false
  cell : ∀ j (hj : j < l.length), w.cell? ⟨g, j, none⟩ = some (.int .u8 (l[j].toNat : Int))

theorem Bts.below {base : Nat} {w w' : World} {v : Value} {l : List UInt8} {g cap : Nat} (h : Bts base w v l g cap) (b : Below w.heap.size w w') : Bts base w' v l g cap where
  val := h.val
  low := h.low
  lt := Nat.lt_of_lt_of_le h.lt b.size
  room := h.room
  there j hj := by rw [b.cell (p := ⟨g, j, none⟩) h.lt]; exact h.there j hj
  free j hj := by rw [b.frozen (p := ⟨g, j, none⟩) h.lt]; exact h.free j hj
  cell j hj := by rw [b.cell (p := ⟨g, j, none⟩) h.lt]; exact h.cell j hj

theorem add_at (g j : Nat) : (⟨g, 0, none⟩ : Addr).add j = ⟨g, j, none⟩ := by unfold Addr.add; split <;> simp_all

theorem Bts.cells {base : Nat} {w : World} {v : Value} {l : List UInt8} {g cap : Nat} (h : Bts base w v l g cap) : ∀ j u, (cellsB l)[j]? = some u → w.cell? ((⟨g, 0, none⟩ : Addr).add j) = some u := by
  intro j u hu
  have hj : j < l.length := by
    have := (List.getElem?_eq_some_iff.1 hu).1
    rwa [cellsB_len] at this
  rw [cellsB_at l j hj] at hu
  rw [add_at, h.cell j hj, hu]

/-- append, both arms. -/
theorem app_bytes {base : Nat} {w : World} {v : Value} {l : List UInt8} {g cap : Nat} (h : Bts base w v l g cap) (tx ty : TypeId) (x : Value) (m : List UInt8) (src : Src Try.prog 1 tx x m.length (cellsB m) w)
    (hbase : base ≤ w.heap.size) (hn : l.length + m.length ≤ 1000000) :
    ∃ v' w' g' cap', (Builtin.append_ #[63, tx] ty #[v, x]).run Try.prog w = .ok v' w' ∧ Bts base w' v' (l ++ m) g' cap' ∧ Below base w w' := by
  obtain ⟨i, hi, hz0, hz1, hz2⟩ := info_parts Try.info5
  have src' : Src Try.prog i.size tx x m.length (cellsB m) w := by rw [hz1]; exact src
  obtain rfl := h.val
  by_cases hroom : l.length + m.length ≤ cap
  · have hc : ∀ j, j < (cellsB m).length → (w.cell? ⟨g, 0 + l.length * i.size + j, none⟩).isSome = true := fun j hj => by
      rw [cellsB_len] at hj
      rw [hz1]
      exact h.there _ (by omega)
    have hf : ∀ j, j < (cellsB m).length → w.frozen? ⟨g, 0 + l.length * i.size + j, none⟩ = false := fun j hj => by
      rw [cellsB_len] at hj
      rw [hz1]
      exact h.free _ (by omega)
    refine ⟨_, _, g, cap, run_append_room_src w 63 tx ty 5 i Try.underlying63 hi g 0 l.length cap x m.length (cellsB m) src' hroom hc hf, ?_, below_set h.low _ _ _⟩
    have b0 : Below 0 w (w.setCells g (0 + l.length * i.size) (cellsB m)) := below_set (Nat.zero_le _) _ _ _
    refine ⟨by rw [List.length_append], h.low, Nat.lt_of_lt_of_le h.lt b0.size, by rw [List.length_append]; exact hroom, ?_, ?_, ?_⟩
    · intro j hj
      exact World.isSome_setCells _ _ _ _ _ (h.there j hj)
    · intro j hj
      rw [World.frozen?_setCells]
      exact h.free j hj
    · intro j hj
      rw [List.length_append] at hj
      by_cases c : j < l.length
      · rw [World.cell?_setCells_out _ _ _ _ _ (fun _ _ => .inl (by rw [hz1]; show j < _; omega)), h.cell j c, List.getElem_append_left c]
      · have hk := World.cell?_setCells_in g (cellsB m) (0 + l.length * i.size) w hc (j - l.length) (by rw [cellsB_len]; omega)
        rw [show 0 + l.length * i.size + (j - l.length) = j by rw [hz1]; omega] at hk
        rw [hk, List.getElem_append_right (by omega)]
        simp [cellsB]
  · have hold : (Builtin.firstCells i.size l.length (.slice (some ⟨g, 0, none⟩) l.length cap)).run Try.prog w.drew = .ok (cellsB l).toArray w.drew :=
      run_firstCells_some w.drew i.size l.length ⟨g, 0, none⟩ l.length cap (cellsB l) (by rw [cellsB_len, hz1, Nat.mul_one]) (by simpa using h.cells)
    have hr := run_append_grow_src w 63 tx ty 5 i (.int .u8 0) Try.underlying63 hi hz0 (some ⟨g, 0, none⟩) l.length cap (cellsB l) hold x m.length (cellsB m) src' (by omega) (by omega) (by rw [hz2]; exact growslice_fits (by omega) (by omega))
    have hge := grownCap_ge w (l.length + m.length) cap 5
    have hz : (Value.int IntKind.u8 0).cells.size = 1 := rfl
    refine ⟨_, _, w.heap.size, grownCap w (l.length + m.length) cap 5, hr, ⟨by rw [List.length_append], hbase, by simp, by rw [List.length_append]; exact hge, ?_, ?_, ?_⟩, ?_⟩
    · intro j hj
      rw [show w.heap.size = w.drew.heap.size from rfl, World.cell?_alloc_mark]
      rw [Array.getElem?_eq_getElem (by
        simp only [Array.size_append, List.size_toArray, List.length_append, cellsB_len, size_zeroCells, hz]
        omega)]
      rfl
    · intro j _
      rw [show w.heap.size = w.drew.heap.size from rfl, World.frozen?_alloc_mark]
      simp
    · intro j hj
      rw [show w.heap.size = w.drew.heap.size from rfl, World.cell?_alloc_mark]
      have e : cellsB l ++ cellsB m = cellsB (l ++ m) := by simp [cellsB]
      rw [e, Array.getElem?_append_left (by rw [List.size_toArray, cellsB_len]; exact hj), List.getElem?_toArray]
      exact cellsB_at (l ++ m) j hj
    · exact (Below.refl base w).drew.alloc hbase _

/-- '[]byte(s)'. -/
theorem conv_bytes (w : World) (s : ByteArray) : ∃ v' w' g cap, (convert 9 63 (.string s)).run Try.prog w = .ok v' w' ∧ Bts w.heap.size w' v' s.data.toList g cap ∧ Below w.heap.size w w' := by
  have hr := run_bytes_of_string (P := Try.prog) w 9 63 5 s Try.underlying9 Try.underlying63 Try.underlying5
  have hge := grownCap_ge w s.size 0 5
  have hsz : (bytesRow s (grownCap w s.size 0 5)).size = grownCap w s.size 0 5 := by
    have e : s.data.size = s.size := rfl
    unfold bytesRow
    rw [Array.size_append, Array.size_map, Array.size_replicate]
    omega
  have hl : s.data.toList.length = s.size := Array.length_toList ..
  rw [hsz] at hr
  refine ⟨_, _, w.heap.size, grownCap w s.size 0 5, hr, ⟨by rw [hl], Nat.le_refl _, by simp, by rw [hl]; exact hge, ?_, ?_, ?_⟩, (Below.refl _ w).drew.alloc (Nat.le_refl _) _⟩
  · intro j hj
    rw [show w.heap.size = w.drew.heap.size from rfl, World.cell?_alloc_mark, Array.getElem?_eq_getElem (by rw [hsz]; exact hj)]
    rfl
  · intro j hj
    rw [show w.heap.size = w.drew.heap.size from rfl, World.frozen?_alloc_mark]
    simp
    omega
  · intro j hj
    rw [show w.heap.size = w.drew.heap.size from rfl, World.cell?_alloc_mark, bytesRow_at s _ j (by rw [hl] at hj; exact hj)]
    rfl

/-- append at the operation. -/
theorem wp_app {ops : Array Oper} {rest : List Oper} {o : Oper} {a : Act} {Q : Exit → Act → World → Prop} {w : World} (hgd : o.guard = none) (sl x : Operand) (tx : TypeId)
    (ho : o.op = .call { callee := .builtin .append, args := #[sl, x], argTypes := #[63, tx] })
    {base : Nat} {v X : Value} {l m : List UInt8} {g cap : Nat} (hs : a.eval sl = v) (h : Bts base w v l g cap) (hx : a.eval x = X) (src : Src Try.prog 1 tx X m.length (cellsB m) w)
    (hbase : base ≤ w.heap.size) (hn : l.length + m.length ≤ 1000000)
    (k : ∀ v' w' g' cap', Bts base w' v' (l ++ m) g' cap' → Below base w w' → wpList Try.prog ops Q rest (a.put o.dst v') w') : wpList Try.prog ops Q (o :: rest) a w := by
  refine wpList_plain hgd fun K hK => ?_
  obtain ⟨v', w', g', cap', hr, h2, h3⟩ := app_bytes h tx o.type X m src hbase hn
  unfold Oper.wp execOp
  simp only [ho, resolve, invoke, builtin, Sem.run_bind, Sem.run_pure, Result.andThen_ok, List.map_toArray, List.map_cons, List.map_nil, hs, hx, hr]
  exact hK _ _ (k v' w' g' cap' h2 h3)

theorem byteCells_eq (s : ByteArray) : byteCells s = cellsB s.data.toList := rfl

theorem src_string (s : ByteArray) (w : World) : Src Try.prog 1 9 (.string s) s.data.toList.length (cellsB s.data.toList) w := by
  have := Src.ofString (P := Try.prog) w Try.underlying9 s
  rw [byteCells_eq] at this
  exact this

theorem src_zero (w : World) : Src Try.prog 1 63 (.slice (some ⟨w.heap.size, 0, none⟩) 1 1) ([0] : List UInt8).length (cellsB [0]) (w.alloc (.cells #[.int .u8 0] 5)) :=
  Src.ofSlice _ Try.underlying63 ⟨w.heap.size, 0, none⟩ 1 1 (cellsB [0]) rfl (World.news_of_block (cs := #[.int .u8 0]) (t := 5) (fr := (0, 0)) (heap_alloc_new w _)) (cellsB_one _)

/-- 'string(b)'. -/
theorem Bts.text {base : Nat} {w : World} {v : Value} {l : List UInt8} {g cap : Nat} (h : Bts base w v l g cap) : (convert 63 9 v).run Try.prog w = .ok (.string ⟨l.toArray⟩) w := by
  obtain rfl := h.val
  exact run_convert_bytes_back w 63 9 5 ⟨g, 0, none⟩ cap l Try.underlying63 Try.underlying5 Try.underlying9 (fun j hj => by rw [add_at]; exact h.cell j hj)

theorem sum_flow (s t : ByteArray) : sum ⟨(s.data.toList ++ 0 :: t.data.toList).toArray⟩ = flow s t := by
  rw [sum_eq, flow_eq, sum_eq, more_eq, more_eq, more_eq]
  show hsh start (s.data.toList ++ 0 :: t.data.toList) = _
  rw [hsh_app, hsh_cons]

theorem rflow_ok (s t : ByteArray) (hs : s.size ≤ 65536) (ht : t.size ≤ 65536) (w : World) :
    Calls Try.prog 19 #[.string s, .string t] w fun e w' => e = .returned (.int .u64 (flow s t : Nat)) ∧ Below w.heap.size w w' := by
  obtain ⟨v1, w1, g1, cap1, CV, B1, b1⟩ := conv_bytes w s
  have hl : s.data.toList.length = s.size := Array.length_toList ..
  have hk : t.data.toList.length = t.size := Array.length_toList ..
  go_enter Try.func19, Try.ntmps19
  have n1 : s.data.toList.length + ([0] : List UInt8).length ≤ 1000000 := by rw [hl]; simp; omega
  go_wp2_with (at_builtin; refine wp_app rfl (.tmp 7) (.tmp 8) 63 rfl rfl (B1.below ((Below.refl _ w1).alloc (Nat.le_refl _) _)) rfl (src_zero w1) (by simp; exact Nat.le_trans b1.size (Nat.le_succ _)) n1 ?_)
  intro v2 w2 g2 cap2 B2 b2
  have b3 : Below w.heap.size w w2 := (b1.alloc b1.size _).trans b2
  clear b2 B1 CV
  have n2 : (s.data.toList ++ [0]).length + t.data.toList.length ≤ 1000000 := by rw [List.length_append, hl, hk]; simp; omega
  go_wp2_with (at_builtin; refine wp_app rfl (.tmp 10) (.tmp 11) 9 rfl rfl B2 rfl (src_string t w2) b3.size n2 ?_)
  intro v3 w3 g3 cap3 B3 b4
  have CW := B3.text
  have sz : (ByteArray.mk (s.data.toList ++ 0 :: t.data.toList).toArray).size ≤ 9223372036854775807 := by
    show (s.data.toList ++ 0 :: t.data.toList).toArray.size ≤ _
    rw [List.size_toArray, List.length_append, List.length_cons, hl, hk]
    omega
  have H := rsum_ok _ sz w3
  rw [sum_flow] at H
  obtain ⟨z, hz⟩ : ∃ z, z = ByteArray.mk (s.data.toList ++ 0 :: t.data.toList).toArray := ⟨_, rfl⟩
  rw [← hz] at CW H
  clear hz sz
  go_wp2_with fail
  go_at_call 25
  refine H.mono ?_
  rintro e w' ⟨rfl, rfl⟩
  clear H CW
  go_wp2
  go_ret
  exact ⟨rfl, b3.trans b4⟩
end Go.Proofs.Ytijjpblmnlednaa.Fn
