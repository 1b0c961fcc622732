/-
  What 'find' and 'without' of the reference answer. Conditions: the list lies in memory.
-/
import Derived.Test.YthamaiibknmeeaaTwo
namespace Go.Proofs.Ythamaiibknmeeaa
open Go.RowKit Go.Lib Go.Sort Go.Maps

theorem rfind_miss (a : Option Addr) (n cap : Nat) (f : Nat → Int × Int) (id : Int) (w : World) (hr : DRow w a n f) (hn : n ≤ 9223372036854775806) (h : ∀ k, k < n → (f k).2 ≠ id) :
    Calls Try.prog 24 #[.slice a n cap, .int .i64 id] w fun e w' => e = .returned (.int .i64 (-1)) ∧ w' = w := by
  have Hh : Hid (∀ k, k < n → (f k).2 ≠ id) := h
  clear h
  go_enter Try.func24, Try.ntmps24
  go_wp2
  go_loop [5] (fun i => ∃ k : Nat, k ≤ n ∧ i = .int .i64 k) (fun i => n - (intOf i).toNat)
  case atStart => exact ⟨0, Nat.zero_le _, rfl⟩
  case round =>
    obtain ⟨k, hk, rfl⟩ := hrel
    by_cases hlt : k < n
    · obtain ⟨b, off, rfl, hb, hc⟩ := hr (by omega)
      have c1 := (hc k hlt).1
      have e' : ((f k).2 == id) = false := by simpa using Hh.out k hlt
      have i1 : (k : Int) < (n : Int) := by omega
      clear hc hr
      go_wp2
      go_round
      case rel => exact ⟨k + 1, by omega, by go_num⟩
      case measure => simp [intOf]; omega
    · obtain rfl : k = n := by omega
      clear hr
      go_wp2
      go_ret; exact ⟨rfl, rfl⟩

theorem rfind_hit (a : Option Addr) (n cap : Nat) (f : Nat → Int × Int) (id : Int) (w : World) (hr : DRow w a n f) (hn : n ≤ 9223372036854775806) (p : Nat) (hp : p < n) (he : (f p).2 = id) (h : ∀ k, k < p → (f k).2 ≠ id) :
    Calls Try.prog 24 #[.slice a n cap, .int .i64 id] w fun e w' => e = .returned (.int .i64 p) ∧ w' = w := by
  have Hh : Hid (∀ k, k < p → (f k).2 ≠ id) := h
  have He : Hid ((f p).2 = id) := he
  clear h he
  go_enter Try.func24, Try.ntmps24
  go_wp2
  go_loop [5] (fun i => ∃ k : Nat, k ≤ p ∧ i = .int .i64 k) (fun i => n - (intOf i).toNat)
  case atStart => exact ⟨0, Nat.zero_le _, rfl⟩
  case round =>
    obtain ⟨k, hk, rfl⟩ := hrel
    obtain ⟨b, off, rfl, hb, hc⟩ := hr (by omega)
    have c1 := (hc k (by omega)).1
    have i1 : (k : Int) < (n : Int) := by omega
    by_cases hlt : k < p
    · have e' : ((f k).2 == id) = false := by simpa using Hh.out k hlt
      clear hc hr
      go_wp2
      go_round
      case rel => exact ⟨k + 1, by omega, by go_num⟩
      case measure => simp [intOf]; omega
    · obtain rfl : k = p := by omega
      have e' : ((f k).2 == id) = true := by simpa using He.out
      clear hc hr
      go_wp2
      go_ret; exact ⟨rfl, rfl⟩

theorem erase_same {K : List (Int × Int)} {p : Nat} (hp : p < K.length) : (K.take (p + 1)).eraseIdx p = (K.take p).eraseIdx p := by
  have hl : (K.take p).length = p := by simp; omega
  rw [List.take_add_one, List.getElem?_eq_getElem hp, List.eraseIdx_append_of_length_le (by omega), hl, Nat.sub_self]
  simp
  rw [List.eraseIdx_of_length_le (by omega)]
theorem erase_other {K : List (Int × Int)} {p i : Nat} (hi : i < K.length) (h : i ≠ p) : (K.take (i + 1)).eraseIdx p = (K.take i).eraseIdx p ++ [K.getD i (0, 0)] := by
  have hl : (K.take i).length = i := by simp; omega
  have e : K.getD i (0, 0) = K[i] := by rw [List.getD_eq_getElem?_getD, List.getElem?_eq_getElem hi]; rfl
  rw [List.take_add_one, List.getElem?_eq_getElem hi, e]
  by_cases c : p < i
  · rw [List.eraseIdx_append_of_lt_length (by omega)]
    rfl
  · rw [List.eraseIdx_of_length_le (show (K.take i).length ≤ p by omega), List.eraseIdx_of_length_le (by simp; omega)]
    rfl

set_option maxHeartbeats 1000000 in
theorem without_any {B : Nat} {v : Value} (K : List (Int × Int)) (w : World) (h : DOwn B w v K) (hn : K.length ≤ 4096) (p : Nat) (hp : p < K.length) :
    Calls Try.prog 26 #[v, .int .i64 p] w fun e w' => ∃ v', e = .returned v' ∧ DOwn w.heap.size w' v' (K.eraseIdx p) ∧ Below w.heap.size w w' := by
  obtain ⟨i0, hi, hz0, hz1, hz2⟩ := info_parts Try.info43
  obtain ⟨a, cap, rfl, hr, _⟩ := h.form
  clear h
  go_enter Try.func26, Try.ntmps26
  go_wp2_with fail
  go_loopw [5, 6] (fun v i wr => ∃ k : Nat, k ≤ K.length ∧ i = .int .i64 k ∧ DOwn w.heap.size wr v ((K.take k).eraseIdx p) ∧ Below w.heap.size w wr) (fun _ i _ => K.length - (intOf i).toNat)
  case atStart => exact ⟨0, Nat.zero_le _, rfl, DOwn.nil _ _, Below.refl _ _⟩
  case round =>
    obtain ⟨k, hk, rfl, D, bk⟩ := hrel
    by_cases hlt : k < K.length
    · have i1 : (k : Int) < (K.length : Int) := by omega
      by_cases c : k = p
      · subst c
        rw [← erase_same hlt] at D
        clear hr
        go_wp2
        go_roundw
        case rel => exact ⟨k + 1, by omega, by go_num, D, bk⟩
        case measure => simp [intOf]; omega
      · obtain ⟨b, off, rfl, hb, hc⟩ := hr (by omega)
        have d0 : wr.cell? ⟨b, off + k * 2, none⟩ = some (.int .i64 (K.getD k (0, 0)).2) := (bk.cell (p := ⟨b, off + k * 2, none⟩) hb).trans (hc k hlt).1
        have d1 : wr.cell? ⟨b, off + k * 2 + 1, none⟩ = some (.int .i64 (K.getD k (0, 0)).1) := (bk.cell (p := ⟨b, off + k * 2 + 1, none⟩) hb).trans (hc k hlt).2
        have eo := erase_other (p := p) hlt c
        have c' : ¬ (k : Int) = (p : Int) := by omega
        have hlen : ((K.take k).eraseIdx p).length ≤ 4096 := by
          have := List.length_eraseIdx_le (K.take k) p
          simp at this
          omega
        generalize (K.take k).eraseIdx p = L at *
        generalize K.getD k (0, 0) = x at *
        have DN := due_new wr x
        have D4 : (wr.alloc (.cells #[.int .i64 x.2, .int .i64 x.1] 43)).ownsRow w.heap.size 43 2 _ L.length (dcl L) := World.ownsRow.alloc D _
        have bs := bk.size
        clear hc hr c
        go_wp2_with (at_builtin; refine wpList_append_lies _ rfl (.tmp 16) (.tmp 21) 26 rfl w.heap.size 43 i0 (.agg #[.int .i64 0, .int .i64 0]) 2 16 Try.underlying26 hi hz0 hz1 hz2 rfl (by decide) _ L.length (dcl L) rfl D4 ⟨wr.heap.size, 0, none⟩ 1 1 (dcl [x]) rfl rfl DN (dcl_one _) (by decide) (by unfold maxLen; omega) (by omega) (by simp; omega) _ rfl ?_; intro g' c' w5 hown' hgrow hat hlt')
        have b5 : Below w.heap.size w w5 := (bk.alloc bk.size _).grown hgrow (by simp; omega) (fun q e => (World.ownsRow.lt D q e).1)
        have D5 : DOwn w.heap.size w5 (.slice (some ⟨g', 0, none⟩) (L.length + 1) c') (L ++ [x]) := by
          show w5.ownsRow _ _ _ _ _ _
          rw [List.length_append, dcl_append]
          exact hown'
        rw [← eo] at D5
        go_roundw
        case rel => exact ⟨k + 1, by omega, by go_num, D5, b5⟩
        case measure => simp [intOf]; omega
    · obtain rfl : k = K.length := by omega
      rw [List.take_length] at D
      clear hr
      go_wp2
      go_ret; exact ⟨_, rfl, D, bk⟩
end Go.Proofs.Ythamaiibknmeeaa
