/-
  Nobody is lost, or there twice: what holds behind a step. No condition.
-/
import Derived.Test.YtlgibnmoogbdcaaQ41
namespace Go.Proofs.Ytlgibnmoogbdcaa

/-- An operation that brings a number of its own. -/
def named (o : Od) (i : Int) : Od := ⟨o.d, ⟨i, o.t.wid, o.t.sts, o.t.sin, o.t.unt⟩, o.n, o.l, o.q⟩
theorem kO_named (o : Od) (i : Int) : kO (named o i) = kO o := rfl
/-- Who came in, who went out. -/
def inN (s : St) (o : Od) (y : St) (i : Int) : Int := if kO o < 2 ∧ wnA s < wnA y then i + 1 else i
def outN (o : Od) (n : Nat) (j : Int) : Int := if kO o = 3 ∨ kO o = 4 ∨ kO o = 5 then j + (n : Int) else j
theorem keep_step {s : St} {n : Nat} {k : Nat} {i j : Int} (h : Kp s n (1000 + (k : Int))) (e : i - j = (n : Int)) (o : Od) {c : Int} (hc : c = -1 ∨ Vld s.x.F s.x.o c) :
    ∃ n' : Nat, Kp (stX s (named o (1000 + (k : Int))) c).1 n' (1000 + ((k + 1 : Nat) : Int)) ∧ inN s o (stX s (named o (1000 + (k : Int))) c).1 i - outN o (stX s (named o (1000 + (k : Int))) c).2.length j = (n' : Int) := by
  have hm : (1000 : Int) + (k : Int) ≤ 1000 + ((k + 1 : Nat) : Int) := by omega
  have he : (1000 : Int) + ((k + 1 : Nat) : Int) = 1000 + (k : Int) + 1 := by omega
  have R := kO_rng o
  have same : ∀ (y : St) (L : List Tk), (ids (allT y)).Perm (ids (allT s)) → (kO o < 2 → y = s) → (kO o = 3 ∨ kO o = 4 ∨ kO o = 5 → L.length = 0) → ∃ n' : Nat, Kp y n' (1000 + ((k + 1 : Nat) : Int)) ∧ inN s o y i - outN o L.length j = (n' : Int) := fun y L p h1 h2 => by
    refine ⟨n, (h.perm p).next hm, ?_⟩
    have a : inN s o y i = i := by
      unfold inN
      by_cases c2 : kO o < 2
      · rw [h1 c2, if_neg (by omega)]
      · rw [if_neg (by omega)]
    have b : outN o L.length j = j := by
      unfold outN
      by_cases c3 : kO o = 3 ∨ kO o = 4 ∨ kO o = 5
      · rw [if_pos c3, h2 c3]
        omega
      · rw [if_neg c3]
    rw [a, b]
    exact e
  have gone : ∀ (y : St) (L : List Tk) (W : List Int), (ids (allT s)).Perm (W ++ ids (allT y)) → W.length = L.length → (kO o = 3 ∨ kO o = 4 ∨ kO o = 5) → ∃ n' : Nat, Kp y n' (1000 + ((k + 1 : Nat) : Int)) ∧ inN s o y i - outN o L.length j = (n' : Int) := fun y L W p hw h3 => by
    obtain ⟨k1, k2⟩ := h.gone p
    refine ⟨n - W.length, k1.next hm, ?_⟩
    have a : inN s o y i = i := by
      unfold inN
      rw [if_neg (by omega)]
    have b : outN o L.length j = j + (L.length : Int) := if_pos h3
    rw [a, b]
    omega
  unfold stX
  rw [kO_named]
  by_cases c2 : kO o < 2
  · rw [if_pos c2]
    by_cases ce : arE s (named o (1000 + (k : Int))).t c = 0
    · rw [if_pos ce]
      obtain ⟨p, hw⟩ := arr_ids ce hc
      refine ⟨n + 1, ?_, ?_⟩
      · rw [he]
        exact h.come p
      · have a : inN s o (arX s (named o (1000 + (k : Int))).t c) i = i + 1 := if_pos ⟨c2, hw⟩
        have b : outN o ([] : List Tk).length j = j := if_neg (by omega)
        show inN s o (arX s (named o (1000 + (k : Int))).t c) i - outN o ([] : List Tk).length j = _
        rw [a, b]
        omega
    · rw [if_neg ce]
      exact same s [] (List.Perm.refl _) (fun _ => rfl) (fun _ => rfl)
  · rw [if_neg c2]
    by_cases c3 : kO o = 2
    · rw [if_pos c3]
      exact same _ (dsA s).2 (ds_ids s) (fun h => absurd h c2) (fun h => by omega)
    · rw [if_neg c3]
      by_cases c4 : kO o = 3
      · rw [if_pos c4]
        by_cases e4 : dnO s (named o (1000 + (k : Int))).n = true
        · rw [if_pos e4]
          exact gone _ [dnT s (named o (1000 + (k : Int))).n] _ (done_ids (dnO_yes e4)) rfl (.inl c4)
        · rw [if_neg e4]
          exact same s [] (List.Perm.refl _) (fun _ => rfl) (fun _ => rfl)
      · rw [if_neg c4]
        by_cases c5 : kO o = 4
        · rw [if_pos c5]
          by_cases e5 : dpO s.x (named o (1000 + (k : Int))).n = true
          · rw [if_pos e5]
            exact gone _ [dpT s.x (named o (1000 + (k : Int))).n] _ (drop_ids (dpO_yes e5)) rfl (.inr (.inl c5))
          · rw [if_neg e5]
            exact same s [] (List.Perm.refl _) (fun _ => rfl) (fun _ => rfl)
        · rw [if_neg c5]
          by_cases c6 : kO o = 5
          · rw [if_pos c6]
            exact gone _ (srt (ltA (named o (1000 + (k : Int))).n s.x.F)) _ (late_ids (named o (1000 + (k : Int))).n s) (ids_len _) (.inr (.inr c6))
          · rw [if_neg c6]
            by_cases c7 : kO o = 6
            · rw [if_pos c7]
              exact same _ [] (List.Perm.refl _) (fun h => absurd h c2) (fun h => by omega)
            · rw [if_neg c7]
              exact same _ [] (by rw [turn_ids]) (fun h => absurd h c2) (fun h => by omega)
/-- Two of them are never the same. -/
theorem Kp.ne {s : St} {n : Nat} {m : Int} (h : Kp s n m) {a b : Nat} (hb : b < (allT s).length) (hab : a < b) : ((gt (allT s) a).id == (gt (allT s) b).id) = false := by
  have nd := h.nd
  unfold ids at nd
  have ha : a < (allT s).length := by omega
  have e1 := gt_get ha
  have e2 := gt_get hb
  rw [List.getElem?_eq_getElem ha] at e1
  rw [List.getElem?_eq_getElem hb] at e2
  injection e1 with e1
  injection e2 with e2
  have := (List.nodup_iff_pairwise_ne.1 nd)
  rw [List.pairwise_iff_getElem] at this
  have h3 := this a b (by rw [List.length_map]; exact ha) (by rw [List.length_map]; exact hb) hab
  rw [List.getElem_map, List.getElem_map, e1, e2] at h3
  simpa using h3
theorem flt_take_succ {F : List Ln} {k : Nat} (h : k < F.length) : flt (F.take (k + 1)) = flt (F.take k) ++ (gl F k).L := by
  have e : F.take (k + 1) = F.take k ++ [gl F k] := by rw [List.take_add_one, gl_get h]; rfl
  rw [e, flt_app, flt_cons]
  show flt (F.take k) ++ ((gl F k).L ++ []) = _
  rw [List.append_nil]
theorem outN_zero {o : Od} (h : ¬ (kO o = 3 ∨ kO o = 4 ∨ kO o = 5)) (n : Nat) (j : Int) : outN o n j = j := if_neg h
theorem inN_same {s : St} {o : Od} (h : ¬ kO o < 2) (y : St) (i : Int) : inN s o y i = i := if_neg (fun e => h e.1)
end Go.Proofs.Ytlgibnmoogbdcaa
