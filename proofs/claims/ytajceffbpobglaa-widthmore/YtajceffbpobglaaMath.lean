/-
  How many seats: plain mathematics. No condition.
-/
import Derived.Test.YtajceffbpobglaaBas
namespace Go.Proofs.Ytajceffbpobglaa

/-- n divided by d, rounded up. -/
def up (n d : Int) : Int := (n + d - 1) / d
theorem up_le {n d k : Int} (hd : 0 < d) : up n d ≤ k ↔ n ≤ k * d := by
  unfold up
  have h := Int.le_ediv_iff_mul_le (a := k + 1) (b := n + d - 1) hd
  rw [Int.add_mul, Int.one_mul] at h
  omega
theorem lt_up {n d k : Int} (hd : 0 < d) : k < up n d ↔ k * d < n := by
  have := up_le (n := n) (k := k) hd
  omega
theorem up_nonneg {n d : Int} (hd : 0 < d) (hn : 0 ≤ n) : 0 ≤ up n d := by
  unfold up; exact Int.ediv_nonneg (by omega) (by omega)
theorem up_le_self {n d : Int} (hd : 0 < d) (hn : 0 ≤ n) : up n d ≤ n := by
  rw [up_le hd]
  have := Int.mul_le_mul_of_nonneg_left (show (1 : Int) ≤ d by omega) hn
  rw [Int.mul_one] at this
  exact this
theorem up_eq {n d k : Int} (hd : 0 < d) (h1 : n ≤ k * d) (h2 : (k - 1) * d < n) : up n d = k := by
  have a := (up_le (k := k) hd).2 h1
  have b := (lt_up (k := k - 1) hd).2 h2
  omega
theorem up_exact {n d : Int} (hd : 0 < d) (h : n % d = 0) : n / d = up n d := by
  have e := Int.mul_ediv_add_emod n d
  rw [h, Int.add_zero, Int.mul_comm] at e
  refine (up_eq hd (by omega) ?_).symm
  rw [Int.sub_mul, Int.one_mul]; omega
theorem up_more {n d : Int} (hd : 0 < d) (h : n % d ≠ 0) : n / d + 1 = up n d := by
  have e := Int.mul_ediv_add_emod n d
  have g1 := Int.emod_nonneg n (show d ≠ 0 by omega)
  have g2 := Int.emod_lt_of_pos n hd
  rw [Int.mul_comm] at e
  refine (up_eq hd ?_ ?_).symm
  · rw [Int.add_mul, Int.one_mul]; omega
  · rw [Int.add_sub_cancel]; omega
theorem up_up {n d : Int} (hd : 0 < d) : up (up n d) 2 = up n (2 * d) := by
  refine up_eq (by omega) ?_ ?_
  · rw [up_le hd]
    have := (up_le (n := n) (k := up n (2 * d)) (show 0 < 2 * d by omega)).1 (Int.le_refl _)
    rw [Int.mul_assoc]; exact this
  · rw [lt_up hd]
    have := (lt_up (n := n) (k := up n (2 * d) - 1) (show 0 < 2 * d by omega)).1 (by omega)
    rw [Int.mul_assoc]; exact this
theorem up_mono {n n' d : Int} (hd : 0 < d) (h : n ≤ n') : up n d ≤ up n' d := by
  rw [up_le hd]
  have := (up_le (n := n') (k := up n' d) hd).1 (Int.le_refl _)
  omega
theorem up_anti {n d d' : Int} (hd : 0 < d) (h : d ≤ d') (hn : 0 ≤ n) : up n d' ≤ up n d := by
  have hd' : 0 < d' := by omega
  rw [up_le hd']
  have a := (up_le (n := n) (k := up n d) hd).1 (Int.le_refl _)
  have b := Int.mul_le_mul_of_nonneg_left h (up_nonneg hd hn)
  omega

/-- The number for a list. -/
def lst (p o : Int) (s : Bool) : Int := max (if s then up (up o p) 2 else up o p) 1
/-- The kind of a verb. -/
def vDel : ByteArray := ⟨#[100, 101, 108, 101, 116, 101, 99, 111, 108, 108, 101, 99, 116, 105, 111, 110]⟩
def vList : ByteArray := ⟨#[108, 105, 115, 116]⟩
def vCr : ByteArray := ⟨#[99, 114, 101, 97, 116, 101]⟩
def vUp : ByteArray := ⟨#[117, 112, 100, 97, 116, 101]⟩
def vPa : ByteArray := ⟨#[112, 97, 116, 99, 104]⟩
def vDe : ByteArray := ⟨#[100, 101, 108, 101, 116, 101]⟩
def vGet : ByteArray := ⟨#[103, 101, 116]⟩
def kd (x : ByteArray) : Nat := if x = vDel then 1 else if x = vList then 0 else if x = vCr ∨ x = vUp ∨ x = vPa ∨ x = vDe then 2 else 3
def ask (p m o : Int) (k : Nat) (s : Bool) : Int :=
  if k = 0 then min (lst p o s) m else if k = 1 then min (lst p o s) m + 1 else if k = 2 then (if p < o then 2 else 1) else 1
def top (most : Int) : Int := min (max most 1) 16
/-- How many seats. -/
def seats (per most o : Int) (k : Nat) (s : Bool) : Int := min (ask (max per 1) (top most) (max o 0) k s) (top most)
def isS (x : ByteArray) : Bool := !x.toList.isEmpty

theorem lst_one (p o : Int) (s : Bool) : 1 ≤ lst p o s := by unfold lst; omega
theorem lst_le {p o : Int} {s : Bool} (hp : 0 < p) (ho : 0 ≤ o) : lst p o s ≤ max o 1 := by
  unfold lst
  have a := up_le_self hp ho
  have b := up_nonneg hp ho
  have c := up_le_self (n := up o p) (d := 2) (by omega) b
  cases s <;> simp <;> omega
theorem top_in (most : Int) : 1 ≤ top most ∧ top most ≤ 16 := by unfold top; omega
theorem ask_in {p m o : Int} {k : Nat} {s : Bool} (hm : 1 ≤ m) (hm' : m ≤ 16) : 1 ≤ ask p m o k s ∧ ask p m o k s ≤ 17 := by
  have := lst_one p o s
  unfold ask
  repeat' split
  all_goals omega
theorem seats_in (per most o : Int) (k : Nat) (s : Bool) : 1 ≤ seats per most o k s ∧ seats per most o k s ≤ top most := by
  have a := top_in most
  have b := ask_in (p := max per 1) (o := max o 0) (k := k) (s := s) a.1 a.2
  unfold seats
  omega
theorem lst_mono {p p' o o' : Int} {s : Bool} (hp : 0 < p') (h : p' ≤ p) (ho : 0 ≤ o) (h' : o ≤ o') : lst p o s ≤ lst p' o' s := by
  have a : up o p ≤ up o' p' := Int.le_trans (up_anti hp h ho) (up_mono hp h')
  have b := up_mono (d := 2) (by omega) a
  unfold lst
  cases s <;> simp <;> omega
theorem ask_mono {p p' m m' o o' : Int} {k : Nat} {s : Bool} (hp : 0 < p') (h : p' ≤ p) (ho : 0 ≤ o) (h' : o ≤ o') (hm : m ≤ m') : ask p m o k s ≤ ask p' m' o' k s := by
  have a := lst_mono (s := s) hp h ho h'
  unfold ask
  repeat' split
  all_goals omega
theorem top_mono {m m' : Int} (h : m ≤ m') : top m ≤ top m' := by unfold top; omega
theorem seats_mono {per per' most most' o o' : Int} {k : Nat} {s : Bool} (h1 : per' ≤ per) (h2 : most ≤ most') (h3 : o ≤ o') : seats per most o k s ≤ seats per' most' o' k s := by
  have t := top_mono h2
  have a := ask_mono (p := max per 1) (p' := max per' 1) (o := max o 0) (o' := max o' 0) (k := k) (s := s) (by omega) (by omega) (by omega) (by omega) t
  unfold seats
  omega
theorem seats_all (per most o : Int) (s : Bool) : seats per most o 1 s = min (seats per most o 0 s + 1) (top most) := by
  unfold seats ask
  simp
  try omega
theorem seats_other (per most o : Int) (s : Bool) : seats per most o 3 s = 1 := by
  have := top_in most
  unfold seats ask
  simp
  try omega
theorem seats_wide (per most o : Int) (s : Bool) : seats per most o 0 s ≤ seats per most o 0 false := by
  have a := up_nonneg (n := max o 0) (d := max per 1) (by omega) (by omega)
  have b := up_le_self (n := up (max o 0) (max per 1)) (d := 2) (by omega) a
  unfold seats ask lst
  cases s <;> simp <;> omega
theorem kd_list : kd vList = 0 := by decide +kernel
theorem kd_del : kd vDel = 1 := by decide +kernel
theorem kd_get : kd vGet = 3 := by decide +kernel
end Go.Proofs.Ytajceffbpobglaa
