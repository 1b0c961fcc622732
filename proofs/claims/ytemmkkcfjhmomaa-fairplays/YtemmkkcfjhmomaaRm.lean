/-
  The mathematics of turns: what there is behind each turn, who was taken, and what holds all the way: no lane in which somebody waits is ahead of virtual time, or behind it by more than its first one's work. No condition.
-/
import Derived.Test.YtemmkkcfjhmomaaUs
import Derived.Test.YtemmkkcfjhmomaaOo
namespace Go.Proofs.Ytemmkkcfjhmomaa

theorem gl_set (F : List Ln) (k j : Nat) (l : Ln) : gl (F.set k l) j = if j = k ∧ k < F.length then l else gl F j := by
  by_cases e : j = k
  · subst e
    by_cases h : j < F.length
    · rw [if_pos ⟨rfl, h⟩, gl_set_same h]
    · rw [if_neg (fun c => h c.2), gl_out (by rw [List.length_set]; omega), gl_out (by omega)]
  · rw [if_neg (fun c => e c.1), gl_set_ne (Ne.symm e)]
theorem trN_id {F : List Ln} {o : Int} : ∀ n : Nat, (n : Int) ≤ o → trN F o n = n
  | 0, _ => rfl
  | n + 1, h => by
    unfold trN
    rw [if_neg (fun c => by have := c.1; omega)]
theorem trm_id {F : List Ln} {o : Int} (h : (F.length : Int) ≤ o) : trm F o = F := by
  unfold trm
  rw [trN_id _ h, List.take_length]
theorem gl_ne {F : List Ln} {k : Nat} (h : (gl F k).L ≠ []) : k < F.length := by
  rcases Nat.lt_or_ge k F.length with c | c
  · exact c
  · rw [gl_out c] at h; exact absurd rfl h
theorem mem_gl {F : List Ln} {l : Ln} (h : l ∈ F) : ∃ k, k < F.length ∧ l = gl F k := by
  obtain ⟨k, hk, e⟩ := List.mem_iff_getElem.1 h
  refine ⟨k, hk, ?_⟩
  have := gl_get hk
  rw [List.getElem?_eq_getElem hk, e] at this
  injection this
theorem gt_mem : ∀ {L : List Tk}, L ≠ [] → gt L 0 ∈ L
  | [], h => absurd rfl h
  | _ :: _, _ => List.mem_cons_self
theorem gt_app : ∀ {L : List Tk} (M : List Tk), L ≠ [] → gt (L ++ M) 0 = gt L 0
  | [], _, h => absurd rfl h
  | _ :: _, _, _ => rfl

/-- Who comes at a turn, where, and what is there behind it. -/
def tuT (i : Nat) (t : Tn) : Tk := ⟨i, clW t.wi, 0, 0, 0⟩
def tuK (x : Fa) (t : Tn) : Int := chF x.F x.o (fun _ => t.ln) 1
def tuX (x : Fa) (i : Nat) (t : Tn) : Fa := if t.tk = true then tkX x else if jnE x (tuK x t) = 0 then jnX x (tuK x t) (tuT i t) else x
/-- From which lane somebody was taken, and how wide. -/
def tuA (x : Fa) (t : Tn) : Int := if t.tk = true ∧ 0 ≤ nxt x.F x.g then nxt x.F x.g else -1
def tuW (x : Fa) (t : Tn) : Int := if t.tk = true ∧ 0 ≤ nxt x.F x.g then (tkT x).wid else 0
def rnX (x0 : Fa) (H : Nat → Tn) : Nat → Fa
  | 0 => x0
  | k + 1 => tuX (rnX x0 H k) k (H k)

/-- What holds of a lane. -/
structure LnI (r g M : Int) (l : Ln) : Prop where
  s0 : 0 ≤ l.s
  s1 : l.s ≤ r
  len : l.L.length ≤ 64
  wid : ∀ t ∈ l.L, 1 ≤ t.wid ∧ t.wid ≤ M
  fin : l.L ≠ [] → r ≤ fN g l
/-- What holds behind k turns. -/
structure Iv (g o M : Int) (k : Nat) (x : Fa) : Prop where
  eg : x.g = g
  en : x.n = 64
  eo : x.o = o
  hg : 1 ≤ g ∧ g ≤ 1000
  ho : 1 ≤ o ∧ o ≤ 64
  hM : M ≤ 16
  len : (x.F.length : Int) = o
  r0 : 0 ≤ x.r
  r1 : x.r ≤ 16000 * (k : Int)
  ln : ∀ j, LnI x.r g M (gl x.F j)
theorem wrk_eq {x g : Int} (hx : 1 ≤ x ∧ x ≤ 16) (hg : 1 ≤ g ∧ g ≤ 1000) : wrk x g = x * g := by
  unfold wrk clW clG
  rw [show min (max x 1) 16 = x from by omega, show min (max g 1) 1000 = g from by omega]
theorem fN_eq {g M : Int} {l : Ln} (hg : 1 ≤ g ∧ g ≤ 1000) (hM : M ≤ 16) (s0 : 0 ≤ l.s) (s1 : l.s ≤ 4800000) (hw : ∀ t ∈ l.L, 1 ≤ t.wid ∧ t.wid ≤ M) (hn : l.L ≠ []) :
    fN g l = l.s + (gt l.L 0).wid * g ∧ (1 ≤ (gt l.L 0).wid ∧ (gt l.L 0).wid ≤ M) ∧ 1 ≤ (gt l.L 0).wid * g ∧ (gt l.L 0).wid * g ≤ M * g ∧ M * g ≤ 16000 := by
  have h := hw _ (gt_mem hn)
  have e := wrk_eq (x := (gt l.L 0).wid) (g := g) ⟨h.1, by omega⟩ hg
  have h1 := wrk_lo (gt l.L 0).wid g
  have h2 := wrk_hi (gt l.L 0).wid g
  have h3 : (gt l.L 0).wid * g ≤ M * g := Int.mul_le_mul_of_nonneg_right h.2 (by omega)
  have h4 : M * g ≤ 16 * g := Int.mul_le_mul_of_nonneg_right hM (by omega)
  refine ⟨?_, h, by omega, h3, by omega⟩
  unfold fN
  rw [finI_some hn, e]
  rw [e] at h1 h2
  generalize (gt l.L 0).wid * g = b at *
  have c1 : capI l.s = l.s := if_pos (by omega)
  have c2 : capI b = b := if_pos (by omega)
  unfold addI
  rw [c1, c2]
  exact if_pos (by omega)
theorem Iv.more {g o M : Int} {k : Nat} {x : Fa} (h : Iv g o M k x) : Iv g o M (k + 1) x :=
  ⟨h.eg, h.en, h.eo, h.hg, h.ho, h.hM, h.len, h.r0, by have := h.r1; omega, h.ln⟩
theorem Iv.few {g o M : Int} {k : Nat} {x : Fa} (h : Iv g o M k x) (hk : k ≤ 300) : Few x.F ∧ (∀ j, (gl x.F j).L.length ≤ 64) ∧ Word x.r := by
  have h1 := h.r1
  have h2 := h.r0
  refine ⟨⟨by have := h.len; have := h.ho; omega, fun l hl => ?_⟩, fun j => (h.ln j).len, ⟨h2, by omega⟩⟩
  obtain ⟨j, -, rfl⟩ := mem_gl hl
  have := h.ln j
  exact ⟨⟨this.s0, by have := this.s1; omega⟩, by have := this.len; omega⟩
theorem Iv.take {g o M : Int} {k : Nat} {x : Fa} (h : Iv g o M k x) (hk : k ≤ 299) : Iv g o M (k + 1) (tkX x) := by
  unfold tkX
  rcases nxt_is x.F x.g with ⟨e, -⟩ | ⟨p, -, hp, e, hne, hmin⟩
  · rw [if_pos (by omega)]
    exact h.more
  · rw [if_neg (by omega), e, Int.toNat_natCast]
    rw [h.eg] at hmin ⊢
    have L := h.ln p
    have r1 := h.r1
    have s1 := L.s1
    have ff := L.fin hne
    obtain ⟨f1, f2, f3, f4, f5⟩ := fN_eq h.hg h.hM L.s0 (by omega) L.wid hne
    have hm : max x.r (fN g (gl x.F p)) = fN g (gl x.F p) := by omega
    have htk : tkF x.F p g = x.F.set p ⟨fN g (gl x.F p), (gl x.F p).L.tail⟩ := by unfold tkF; rw [tkS_some hne]; rfl
    have ht : trm (tkF x.F p g) x.o = tkF x.F p g := trm_id (by rw [htk, List.length_set, h.eo]; have := h.len; omega)
    rw [hm, ht, htk]
    have r0 := h.r0
    refine ⟨rfl, h.en, h.eo, h.hg, h.ho, h.hM, by show ((List.set _ _ _).length : Int) = o; rw [List.length_set]; exact h.len, by show 0 ≤ fN g (gl x.F p); omega, by show fN g (gl x.F p) ≤ _; omega, fun j => ?_⟩
    show LnI (fN g (gl x.F p)) g M (gl (x.F.set p _) j)
    rw [gl_set]
    by_cases c : j = p ∧ p < x.F.length
    · rw [if_pos c]
      refine ⟨by show 0 ≤ fN g (gl x.F p); omega, Int.le_refl _, by have := L.len; show (gl x.F p).L.tail.length ≤ 64; rw [List.length_tail]; omega, fun t ht => L.wid t (List.mem_of_mem_tail ht), fun hn => ?_⟩
      obtain ⟨q1, q2, q3, -⟩ := fN_eq (l := ⟨fN g (gl x.F p), (gl x.F p).L.tail⟩) h.hg h.hM (by show 0 ≤ fN g (gl x.F p); omega) (by show fN g (gl x.F p) ≤ _; omega) (fun t ht => L.wid t (List.mem_of_mem_tail ht)) hn
      rw [q1]
      show fN g (gl x.F p) ≤ fN g (gl x.F p) + _
      omega
    · rw [if_neg c]
      have J := h.ln j
      exact ⟨J.s0, by have := J.s1; omega, J.len, J.wid, fun hn => (hmin j (Nat.zero_le _) (gl_ne hn) hn).1⟩
theorem jnE_zero {x : Fa} {c : Int} (h : jnE x c = 0) : ¬ c < 0 ∧ ¬ x.n ≤ ((gl x.F c.toNat).L.length : Int) := by
  unfold jnE at h
  by_cases c1 : c < 0
  · rw [if_pos c1] at h; exact absurd h (by decide)
  · by_cases c2 : x.n ≤ ((gl x.F c.toNat).L.length : Int)
    · rw [if_neg c1, if_pos c2] at h; exact absurd h (by decide)
    · exact ⟨c1, c2⟩
theorem jnX_eq {x : Fa} {c : Int} (h : jnE x c = 0) (t : Tk) : jnX x c t = ⟨x.r, x.g, x.n, x.o, jnF x.F c.toNat x.r t⟩ := by
  obtain ⟨h1, h2⟩ := jnE_zero h
  unfold jnX
  rw [if_neg h1, if_neg h2]
theorem Iv.join {g o M : Int} {k : Nat} {x : Fa} (h : Iv g o M k x) (hk : k ≤ 299) {c : Int} (hc : jnE x c = 0) {t : Tk} (ht : 1 ≤ t.wid ∧ t.wid ≤ M) : Iv g o M (k + 1) (jnX x c t) := by
  rw [jnX_eq hc]
  have hfull := (jnE_zero hc).2
  rw [h.en] at hfull
  generalize c.toNat = p at *
  have L := h.ln p
  have r0 := h.r0
  have r1 := h.r1
  refine ⟨h.eg, h.en, h.eo, h.hg, h.ho, h.hM, by show ((List.set _ _ _).length : Int) = o; rw [List.length_set]; exact h.len, h.r0, by show x.r ≤ _; omega, fun j => ?_⟩
  show LnI x.r g M (gl (x.F.set p _) j)
  rw [gl_set]
  by_cases c : j = p ∧ p < x.F.length
  · rw [if_pos c]
    have hw : ∀ u ∈ (gl x.F p).L ++ [t], 1 ≤ u.wid ∧ u.wid ≤ M := fun u hu => by
      rcases List.mem_append.1 hu with c | c
      · exact L.wid u c
      · rw [List.mem_singleton.1 c]; exact ht
    by_cases e : (gl x.F p).L = []
    · have hs : jnS (gl x.F p).s x.r (gl x.F p).L = x.r := by rw [e, jnS_nil]; have := L.s1; omega
      rw [hs]
      refine ⟨r0, Int.le_refl _, by show ((gl x.F p).L ++ [t]).length ≤ 64; rw [e]; simp, hw, fun hn => ?_⟩
      obtain ⟨q1, q2, q3, -⟩ := fN_eq (l := ⟨x.r, (gl x.F p).L ++ [t]⟩) h.hg h.hM r0 (by show x.r ≤ _; omega) hw hn
      rw [q1]
      show x.r ≤ x.r + _
      omega
    · rw [jnS_some e]
      refine ⟨L.s0, L.s1, by show ((gl x.F p).L ++ [t]).length ≤ 64; rw [List.length_append, List.length_singleton]; omega, hw, fun hn => ?_⟩
      have := L.fin e
      unfold fN at this ⊢
      rw [finI_some e] at this
      rw [finI_some hn]
      show x.r ≤ addI (gl x.F p).s (wrk (gt ((gl x.F p).L ++ [t]) 0).wid g)
      rw [gt_app _ e]
      exact this
  · rw [if_neg c]
    exact h.ln j
theorem Iv.step {g o M : Int} {k : Nat} {x : Fa} (h : Iv g o M k x) (hk : k ≤ 299) {t : Tn} (ht : clW t.wi ≤ M) : Iv g o M (k + 1) (tuX x k t) := by
  unfold tuX
  by_cases c : t.tk = true
  · rw [if_pos c]; exact h.take hk
  · rw [if_neg c]
    by_cases d : jnE x (tuK x t) = 0
    · rw [if_pos d]; exact h.join hk d ⟨clW_lo _, ht⟩
    · rw [if_neg d]; exact h.more
theorem Iv.new {g o M : Int} (h : Good o g 64) (hM : M ≤ 16) : Iv g o M 0 (nwX o g 64) := by
  unfold nwX
  rw [if_pos h]
  refine ⟨rfl, rfl, rfl, h.2.1, h.1, hM, by show ((nwF o.toNat).length : Int) = o; rw [nwF_len]; have := h.1; omega, Int.le_refl _, Int.le_refl _, fun j => ?_⟩
  show LnI 0 g M (gl (nwF o.toNat) j)
  have : gl (nwF o.toNat) j = lnZ := by
    rcases Nat.lt_or_ge j (nwF o.toNat).length with c | c
    · exact (List.mem_replicate.1 (gl_mem c)).2
    · exact gl_out c
  rw [this]
  exact ⟨Int.le_refl _, Int.le_refl _, Nat.zero_le _, (fun t ht => by cases ht), fun e => absurd rfl e⟩
theorem Iv.run {g o M : Int} (h : Good o g 64) (hM : M ≤ 16) {H : Nat → Tn} : ∀ (k : Nat), k ≤ 300 → (∀ i, i < k → clW (H i).wi ≤ M) → Iv g o M k (rnX (nwX o g 64) H k)
  | 0, _, _ => Iv.new h hM
  | k + 1, hk, hw => (Iv.run h hM k (by omega) (fun i hi => hw i (by omega))).step (by omega) (hw k (by omega))
/-- Virtual time never falls. -/
theorem tuX_r (x : Fa) (i : Nat) (t : Tn) : x.r ≤ (tuX x i t).r := by
  unfold tuX
  split
  · unfold tkX
    split
    · exact Int.le_refl _
    · show x.r ≤ max x.r _
      omega
  · split
    · rename_i c
      rw [jnX_eq c]
      exact Int.le_refl _
    · exact Int.le_refl _
/-- How wide who was taken is. -/
theorem tuW_rng {g o M : Int} {k : Nat} {x : Fa} (h : Iv g o M k x) (h0 : 0 ≤ M) (t : Tn) : 0 ≤ tuW x t ∧ tuW x t ≤ M := by
  unfold tuW
  split
  · rename_i c
    rcases nxt_is x.F x.g with ⟨e, -⟩ | ⟨p, -, hp, e, hne, -⟩
    · omega
    · have e2 : tkT x = gt (gl x.F p).L 0 := by unfold tkT; rw [e, if_neg (by omega), Int.toNat_natCast]
      rw [e2]
      have := (h.ln p).wid _ (gt_mem hne)
      omega
  · omega
/-- The work that was taken from a lane that stays full is how far its start went. -/
theorem share_step {g o M : Int} {k : Nat} {x : Fa} (h : Iv g o M k x) (hk : k ≤ 299) (a : Nat) (hne : (gl x.F a).L ≠ []) (t : Tn) :
    (gl (tuX x k t).F a).s = (gl x.F a).s + (if tuA x t = (a : Int) then tuW x t * g else 0) := by
  by_cases c : t.tk = true
  · rw [show tuX x k t = tkX x from if_pos c]
    rcases nxt_is x.F x.g with ⟨e, h0⟩ | ⟨p, -, hp, e, hnp, -⟩
    · exact absurd (h0 a (Nat.zero_le _) (gl_ne hne)) hne
    · have hp0 : 0 ≤ nxt x.F x.g := by omega
      have ha : tuA x t = (p : Int) := by rw [← e]; exact if_pos ⟨c, hp0⟩
      have e2 : tuW x t = (gt (gl x.F p).L 0).wid := by
        rw [show tuW x t = (tkT x).wid from if_pos ⟨c, hp0⟩]
        unfold tkT
        rw [e, if_neg (by omega), Int.toNat_natCast]
      have L := h.ln p
      obtain ⟨f1, -⟩ := fN_eq h.hg h.hM L.s0 (by have := L.s1; have := h.r1; omega) L.wid hnp
      have htk : tkF x.F p g = x.F.set p ⟨fN g (gl x.F p), (gl x.F p).L.tail⟩ := by unfold tkF; rw [tkS_some hnp]; rfl
      have ht : trm (tkF x.F p g) x.o = tkF x.F p g := trm_id (by rw [htk, List.length_set, h.eo]; have := h.len; omega)
      have e3 : (tkX x).F = x.F.set p ⟨fN g (gl x.F p), (gl x.F p).L.tail⟩ := by
        unfold tkX
        rw [e, if_neg (by omega), Int.toNat_natCast, h.eg]
        show trm (tkF x.F p g) x.o = _
        rw [ht, htk]
      rw [e3, e2, ha, gl_set]
      by_cases d : a = p
      · subst d
        rw [if_pos ⟨rfl, hp⟩, if_pos rfl]
        exact f1
      · rw [if_neg (fun q => d q.1), if_neg (fun q => d (by omega))]
        omega
  · have ha : tuA x t = -1 := if_neg (fun q => c q.1)
    rw [ha, if_neg (show ¬ (-1 : Int) = (a : Int) from by omega), Int.add_zero]
    have ex : tuX x k t = if jnE x (tuK x t) = 0 then jnX x (tuK x t) (tuT k t) else x := if_neg c
    rw [ex]
    by_cases d : jnE x (tuK x t) = 0
    · rw [if_pos d, jnX_eq d]
      show (gl (x.F.set _ _) a).s = _
      rw [gl_set]
      generalize (tuK x t).toNat = p at *
      by_cases e : a = p ∧ p < x.F.length
      · obtain ⟨rfl, -⟩ := e
        rw [if_pos ⟨rfl, gl_ne hne⟩]
        exact jnS_some hne
      · rw [if_neg e]
    · rw [if_neg d]
/-- How far behind. -/
theorem share_end {g o M : Int} {k : Nat} {x : Fa} (h : Iv g o M k x) (hk : k ≤ 300) (a : Nat) (hne : (gl x.F a).L ≠ []) : (gl x.F a).s ≤ x.r ∧ x.r ≤ (gl x.F a).s + M * g := by
  have L := h.ln a
  have := L.fin hne
  obtain ⟨f1, f2, f3, f4, -⟩ := fN_eq h.hg h.hM L.s0 (by have := L.s1; have := h.r1; omega) L.wid hne
  exact ⟨L.s1, by omega⟩
end Go.Proofs.Ytemmkkcfjhmomaa
