/-
  The mathematics of emptying: how many wait, and their seats, behind a take and a trim. No condition.
-/
import Derived.Test.YtemmkkcfjhmomabUs
namespace Go.Proofs.Ytemmkkcfjhmomab

theorem wt_app (F : List Ln) (m : Nat) : ∀ k, k ≤ m → wtT (F.take m) k = wtT F k
  | 0, _ => rfl
  | k + 1, h => by
    unfold wtT
    rw [wt_app F m k (by omega), gl_take (by omega)]
theorem st_app (F : List Ln) (m : Nat) : ∀ k, k ≤ m → stT (F.take m) k = stT F k
  | 0, _ => rfl
  | k + 1, h => by
    unfold stT
    rw [st_app F m k (by omega), gl_take (by omega)]
theorem sW_nil {l : Ln} (h : l.L = []) : sW l = 0 := by
  unfold sW
  rw [h]
  rfl
theorem wt_trN (F : List Ln) (o : Int) : ∀ n, wtT F (trN F o n) = wtT F n
  | 0 => rfl
  | n + 1 => by
    unfold trN
    split
    · rename_i h
      rw [wt_trN F o n]
      show wtT F n = wtT F n + ((gl F n).L.length : Int)
      rw [h.2]
      simp
    · rfl
theorem st_trN (F : List Ln) (o : Int) : ∀ n, stT F (trN F o n) = stT F n
  | 0 => rfl
  | n + 1 => by
    unfold trN
    split
    · rename_i h
      rw [st_trN F o n]
      show stT F n = stT F n + sW (gl F n)
      rw [sW_nil h.2]
      simp
    · rfl
/-- How many wait, and their seats, in all. -/
def wtA (F : List Ln) : Int := wtT F F.length
def stA (F : List Ln) : Int := stT F F.length
theorem wt_trm (F : List Ln) (o : Int) : wtA (trm F o) = wtA F := by
  unfold wtA
  rw [trm_len]
  unfold trm
  rw [wt_app F _ _ (Nat.le_refl _), wt_trN]
theorem st_trm (F : List Ln) (o : Int) : stA (trm F o) = stA F := by
  unfold stA
  rw [trm_len]
  unfold trm
  rw [st_app F _ _ (Nat.le_refl _), st_trN]
theorem wt_zero {F : List Ln} : ∀ n, wtT F n = 0 → ∀ k, k < n → (gl F k).L = []
  | 0, _, k, h => absurd h (Nat.not_lt_zero k)
  | n + 1, h, k, hk => by
    have h0 := wtT_lo F n
    have h1 : wtT F n + ((gl F n).L.length : Int) = 0 := h
    rcases Nat.lt_or_eq_of_le (Nat.le_of_lt_succ hk) with c | rfl
    · exact wt_zero n (by omega) k c
    · exact List.eq_nil_of_length_eq_zero (by omega)
theorem wt_none {F : List Ln} : ∀ n, (∀ k, k < n → (gl F k).L = []) → wtT F n = 0 ∧ stT F n = 0
  | 0, _ => ⟨rfl, rfl⟩
  | n + 1, h => by
    obtain ⟨h1, h2⟩ := wt_none n (fun k hk => h k (by omega))
    have h3 := h n (Nat.lt_succ_self n)
    unfold wtT stT
    rw [h1, h2, h3, sW_nil h3]
    exact ⟨rfl, rfl⟩
theorem st_zero {F : List Ln} (h : wtA F = 0) : stA F = 0 := (wt_none F.length (wt_zero F.length h)).2
theorem trN_all {F : List Ln} : ∀ n, (∀ k, k < n → (gl F k).L = []) → trN F 0 n = 0
  | 0, _ => rfl
  | n + 1, h => by
    unfold trN
    rw [if_pos ⟨by omega, h n (Nat.lt_succ_self n)⟩]
    exact trN_all n (fun k hk => h k (by omega))
/-- Lanes that are shut are gone once nobody waits. -/
theorem trm_gone {F : List Ln} (h : wtA (trm F 0) = 0) : trm F 0 = [] := by
  rw [wt_trm] at h
  unfold trm
  rw [trN_all F.length (wt_zero F.length h)]
  rfl
theorem gl_set2 (F : List Ln) (k j : Nat) (l : Ln) : gl (F.set k l) j = if j = k ∧ k < F.length then l else gl F j := by
  by_cases e : j = k
  · subst e
    by_cases h : j < F.length
    · rw [if_pos ⟨rfl, h⟩, gl_set_same h]
    · rw [if_neg (fun c => h c.2), gl_out (by rw [List.length_set]; omega), gl_out (by omega)]
  · rw [if_neg (fun c => e c.1), gl_set_ne (Ne.symm e)]
theorem wt_set {F : List Ln} {p : Nat} (hp : p < F.length) (l : Ln) : ∀ n, wtT (F.set p l) n = wtT F n + (if p < n then (l.L.length : Int) - ((gl F p).L.length : Int) else 0)
  | 0 => by rw [if_neg (Nat.not_lt_zero p)]; rfl
  | n + 1 => by
    have ih := wt_set hp l n
    show wtT (F.set p l) n + ((gl (F.set p l) n).L.length : Int) = wtT F n + ((gl F n).L.length : Int) + _
    rw [ih, gl_set2]
    by_cases c : n = p ∧ p < F.length
    · obtain ⟨rfl, -⟩ := c
      rw [if_neg (Nat.lt_irrefl n), if_pos (show n = n ∧ n < F.length from ⟨rfl, hp⟩), if_pos (Nat.lt_succ_self n)]
      omega
    · rw [if_neg c]
      by_cases d : p < n
      · rw [if_pos d, if_pos (by omega)]
        omega
      · rw [if_neg d, if_neg (fun e => c ⟨by omega, hp⟩)]
        omega
theorem st_set {F : List Ln} {p : Nat} (hp : p < F.length) (l : Ln) : ∀ n, stT (F.set p l) n = stT F n + (if p < n then sW l - sW (gl F p) else 0)
  | 0 => by rw [if_neg (Nat.not_lt_zero p)]; rfl
  | n + 1 => by
    have ih := st_set hp l n
    show stT (F.set p l) n + sW (gl (F.set p l) n) = stT F n + sW (gl F n) + _
    rw [ih, gl_set2]
    by_cases c : n = p ∧ p < F.length
    · obtain ⟨rfl, -⟩ := c
      rw [if_neg (Nat.lt_irrefl n), if_pos (show n = n ∧ n < F.length from ⟨rfl, hp⟩), if_pos (Nat.lt_succ_self n)]
      omega
    · rw [if_neg c]
      by_cases d : p < n
      · rw [if_pos d, if_pos (by omega)]
        omega
      · rw [if_neg d, if_neg (fun e => c ⟨by omega, hp⟩)]
        omega
theorem seats_cons (t : Tk) (L : List Tk) : ∀ k, seatsTo (t :: L) (k + 1) = clW t.wid + seatsTo L k
  | 0 => by
    show 0 + clW (gt (t :: L) 0).wid = clW t.wid + 0
    rw [gt_cons_zero]
    omega
  | k + 1 => by
    show seatsTo (t :: L) (k + 1) + clW (gt (t :: L) (k + 1)).wid = clW t.wid + (seatsTo L k + clW (gt L k).wid)
    rw [seats_cons t L k, gt_cons_succ]
    omega
theorem sW_tail {l : Ln} (h : l.L ≠ []) (s' : Int) : sW ⟨s', l.L.tail⟩ = sW l - clW (gt l.L 0).wid := by
  obtain ⟨s, L⟩ := l
  cases L with
  | nil => exact absurd rfl h
  | cons t L =>
    unfold sW
    show seatsTo L L.length = seatsTo (t :: L) (L.length + 1) - clW t.wid
    rw [seats_cons]
    omega
/-- Whoever waits, somebody is next. -/
theorem nxt_some {F : List Ln} {g : Int} (h : 0 < wtA F) : ∃ p : Nat, nxt F g = p ∧ p < F.length ∧ (gl F p).L ≠ [] := by
  rcases nxt_is F g with ⟨-, h0⟩ | ⟨p, -, hp, e, hne, -⟩
  · have := (wt_none F.length (fun k hk => h0 k (Nat.zero_le _) hk)).1
    unfold wtA at h
    omega
  · exact ⟨p, e, hp, hne⟩
theorem nxt_no {F : List Ln} {g : Int} (h : wtA F = 0) : nxt F g = -1 := by
  rcases nxt_is F g with ⟨e, -⟩ | ⟨p, -, hp, -, hne, -⟩
  · exact e
  · exact absurd (wt_zero F.length h p hp) hne
/-- One less waits, and the seats are fewer by its width. -/
theorem tk_less {x : Fa} {p : Nat} (e : nxt x.F x.g = p) (hp : p < x.F.length) (hne : (gl x.F p).L ≠ []) :
    tkT x = gt (gl x.F p).L 0 ∧ tkO x = true ∧ (tkX x).o = x.o ∧ (tkX x).F = trm (tkF x.F p x.g) x.o ∧ (tkX x).F.length ≤ x.F.length ∧ wtA (tkX x).F = wtA x.F - 1 ∧ stA (tkX x).F = stA x.F - clW (gt (gl x.F p).L 0).wid := by
  have e1 : tkX x = ⟨max x.r (fN x.g (gl x.F p)), x.g, x.n, x.o, trm (tkF x.F p x.g) x.o⟩ := by
    unfold tkX
    rw [e, if_neg (by omega), Int.toNat_natCast]
  refine ⟨by unfold tkT; rw [e, if_neg (by omega), Int.toNat_natCast], by unfold tkO; rw [e]; exact decide_eq_true (by omega), by rw [e1], by rw [e1], ?_, ?_, ?_⟩
  · rw [e1]
    show (trm (tkF x.F p x.g) x.o).length ≤ _
    rw [trm_len]
    have := trN_le (tkF x.F p x.g) x.o (tkF x.F p x.g).length
    have h2 : (tkF x.F p x.g).length = x.F.length := List.length_set
    omega
  · rw [e1]
    show wtA (trm (tkF x.F p x.g) x.o) = _
    rw [wt_trm]
    unfold wtA tkF
    rw [List.length_set, wt_set hp, if_pos hp]
    show _ + (((gl x.F p).L.tail.length : Int) - _) = _
    have := len_pos hne
    rw [List.length_tail]
    omega
  · rw [e1]
    show stA (trm (tkF x.F p x.g) x.o) = _
    rw [st_trm]
    unfold stA tkF
    rw [List.length_set, st_set hp, if_pos hp, sW_tail hne]
    omega
theorem wtA_rng {F : List Ln} (h : Few F) : 0 ≤ wtA F ∧ wtA F ≤ 200000 := by
  have h1 := wtT_lo F F.length
  have h2 := wtT_hi h F.length
  have h3 := h.len
  unfold wtA
  omega
theorem stA_rng {F : List Ln} (h : Few F) : 0 ≤ stA F ∧ stA F ≤ 3200000 := by
  have h1 := stT_lo F F.length
  have h2 := stT_hi h F.length
  have h3 := h.len
  unfold stA
  omega
end Go.Proofs.Ytemmkkcfjhmomab
