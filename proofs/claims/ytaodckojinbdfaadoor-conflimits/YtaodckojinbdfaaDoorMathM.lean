/-
  Texts of as many levels, schemas and rules as there may be, and of one more: what they tell.
-/
import Derived.Test.YtaodckojinbdfaaDoorMathK
import Derived.Test.YtaodckojinbdfaaDoorDec
namespace Go.Proofs.YtaodckojinbdfaaDoor
open Go.Lib

/-- The digits of a number below 100. -/
def dg (n : Nat) : ByteArray := if n < 10 then mk [UInt8.ofNat (48 + n)] else mk [UInt8.ofNat (48 + n / 10), UInt8.ofNat (48 + n % 10)]
theorem dg_eq (n : Nat) (h : n < 100) : digB (n : Int) = dg n := by
  unfold digB dg
  rw [show (max (n : Int) 0).toNat = n by omega]
  by_cases h1 : n < 10
  · rw [if_pos h1, dec_small h1]
  · rw [if_neg h1, dec_big h1, dec_small (by omega)]
    rfl
theorem dg_size (n : Nat) : (dg n).size ≤ 2 := by
  unfold dg
  split
  · rw [mk_size]; simp
  · rw [mk_size]; simp
/-- So many lines behind a beginning. -/
def limT (hd one tl : ByteArray) : Nat → ByteArray
  | 0 => hd
  | n + 1 => limT hd one tl n ++ ((one ++ dg n) ++ tl)
theorem limT_size (hd one tl : ByteArray) : ∀ n, (limT hd one tl n).size ≤ hd.size + n * (one.size + 2 + tl.size)
  | 0 => by simp [limT]
  | n + 1 => by
    have := limT_size hd one tl n
    have h2 := dg_size n
    show (limT hd one tl n ++ ((one ++ dg n) ++ tl)).size ≤ _
    rw [cat_size, cat_size, cat_size, Nat.succ_mul]
    omega
def limX (hd one tl : ByteArray) (n : Nat) : ByteArray := limT hd one tl n ++ one ++ dg n ++ tl

def l0o : ByteArray := ⟨#[108, 101, 118, 101, 108, 32, 97]⟩
def l0t : ByteArray := ⟨#[32, 101, 120, 101, 109, 112, 116, 10]⟩
def l1o : ByteArray := ⟨#[115, 99, 104, 101, 109, 97, 32, 97]⟩
def l1t : ByteArray := ⟨#[32, 97, 32, 49, 32, 110, 111, 110, 101, 10]⟩
def l2h : ByteArray := ⟨#[115, 99, 104, 101, 109, 97, 32, 97, 32, 97, 32, 49, 32, 110, 111, 110, 101, 10]⟩
def l2o : ByteArray := ⟨#[114, 117, 108, 101, 32, 42, 32, 42, 32, 42, 32, 42, 32, 117]⟩
def l2t : ByteArray := ⟨#[10]⟩

/-- What is asked of the two texts. -/
structure Lim (hd one tl : ByteArray) (n l : Nat) : Prop where
  e : parE (limT hd one tl n) = 0
  c : 1 ≤ (parC (limT hd one tl n)).levels.length + (parC (limT hd one tl n)).schemas.length
  f : (parC (limT hd one tl n)).levels.length ≤ 100 ∧ (parC (limT hd one tl n)).schemas.length ≤ 100
  x : parE (limX hd one tl n) = 3
  l : parL (limX hd one tl n) = l
set_option maxRecDepth 100000 in
theorem lim0 : Lim ⟨#[]⟩ l0o l0t 16 17 := ⟨by rw [parE_eq]; kernel_rfl, by rw [parC_eq]; exact of_decide_eq_true (by kernel_rfl), by rw [parC_eq]; exact ⟨of_decide_eq_true (by kernel_rfl), of_decide_eq_true (by kernel_rfl)⟩, by rw [parE_eq]; kernel_rfl, by rw [parL_eq]; kernel_rfl⟩
set_option maxRecDepth 100000 in
theorem lim1 : Lim ⟨#[]⟩ l1o l1t 32 33 := ⟨by rw [parE_eq]; kernel_rfl, by rw [parC_eq]; exact of_decide_eq_true (by kernel_rfl), by rw [parC_eq]; exact ⟨of_decide_eq_true (by kernel_rfl), of_decide_eq_true (by kernel_rfl)⟩, by rw [parE_eq]; kernel_rfl, by rw [parL_eq]; kernel_rfl⟩
set_option maxRecDepth 100000 in
theorem lim2 : Lim l2h l2o l2t 8 10 := ⟨by rw [parE_eq]; kernel_rfl, by rw [parC_eq]; exact of_decide_eq_true (by kernel_rfl), by rw [parC_eq]; exact ⟨of_decide_eq_true (by kernel_rfl), of_decide_eq_true (by kernel_rfl)⟩, by rw [parE_eq]; kernel_rfl, by rw [parL_eq]; kernel_rfl⟩

end Go.Proofs.YtaodckojinbdfaaDoor
