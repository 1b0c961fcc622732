/-
  What the reader's method 'line' of the program does. Condition: the reader and the configuration lie in memory.
-/
import Derived.Test.YtaodckojinbdfaaDoorRdL0
import Derived.Test.YtaodckojinbdfaaDoorRdL1
import Derived.Test.YtaodckojinbdfaaDoorRdL2
import Derived.Test.YtaodckojinbdfaaDoorRdL3
import Derived.Test.YtaodckojinbdfaaDoorRdS
import Derived.Test.YtaodckojinbdfaaDoorRdR
namespace Go.Proofs.YtaodckojinbdfaaDoor
open Go.RowKit

/-- There are not too many levels and schemas. -/
def Fit (C : Cf) : Prop := C.levels.length ≤ 16 ∧ C.schemas.length ≤ 32
theorem kindW_is (ws : List ByteArray) : kindW ws = 0 ∨ kindW ws = 1 ∨ kindW ws = 2 ∨ kindW ws = 3 := by
  unfold kindW
  split
  · exact .inr (.inl rfl)
  · split
    · exact .inr (.inr (.inl rfl))
    · split
      · exact .inr (.inr (.inr rfl))
      · exact .inl rfl
theorem level_rd {B R A : Nat} {C : Cf} {ws : List ByteArray} (w : World) (H : Rd B w R A ws 0) (K : Cfg B w A C) (hF : C.levels.length ≤ 16) :
    Calls Tryd.prog 34 #[.pointer (some ⟨R, 0, none⟩)] w fun r w' => r = .returned (.tuple #[]) ∧ Told B R A w w' (levelE C ws) ⟨C.total, C.period, C.perSeat, C.most, C.levels ++ [levelOf ws], C.schemas⟩ := by
  rcases kindW_is ws with h | h | h | h
  · exact level_0 w H K hF h
  · exact level_1 w H K hF h
  · exact level_2 w H K hF h
  · exact level_3 w H K hF h
theorem rule_rd {B R A : Nat} {C : Cf} {ws : List ByteArray} (w : World) (H : Rd B w R A ws 0) (K : Cfg B w A C) (hF : C.schemas.length ≤ 32) :
    Calls Tryd.prog 36 #[.pointer (some ⟨R, 0, none⟩)] w fun r w' => r = .returned (.tuple #[]) ∧ Told B R A w w' (ruleE C ws) ⟨C.total, C.period, C.perSeat, C.most, C.levels, addRule (ruleOf ws) C.schemas⟩ := by
  cases h5 : ((ws.length : Int) == 5) with
  | false => exact rule_0 w H K hF h5
  | true =>
    by_cases h0 : C.schemas = []
    · exact rule_1 w H K hF h5 h0
    · exact rule_2 w H K hF h5 (List.dropLast_concat_getLast h0).symm

theorem Told.from {B R A : Nat} {a b c : World} {E : Int} {C : Cf} (h : Told B R A b c E C) (k : KT B a b) : Told B R A a c E C := ⟨h.rd, h.cfg, k.trans h.kt⟩

set_option maxRecDepth 20000 in
theorem line_rd {B R A : Nat} {C : Cf} {ws : List ByteArray} (w : World) (H : Rd B w R A ws 0) (K : Cfg B w A C) (hF : Fit C) (hne : ∀ x ∈ ws, 0 < x.size) :
    Calls Tryd.prog 19 #[.pointer (some ⟨R, 0, none⟩)] w fun r w' => r = .returned (.tuple #[]) ∧ Told B R A w w' (lineE C ws) (lineC C ws) := by
  obtain ⟨a, c, hb, hr, hc, h6⟩ := H.ex
  have c0 := hb.cellv 0 rfl
  cases ws with
  | nil =>
    have T : Hd (Told B R A w w (lineE C []) (lineC C [])) := ⟨⟨_, H⟩, fun _ => K, KT.refl _ _⟩
    clear H K hF hb hr hc hne h6
    go_enter Tryd.func19, Tryd.ntmps19
    go_wp2_with fail
    (try simp only [Exit.inBlock, Exit.then])
    refine bodyPost_ret (results_none rfl _ _ _) rfl ?_
    exact ⟨rfl, T.out⟩
  | cons s t =>
    obtain ⟨b, off, rfl, hbl, hcs⟩ := hr.row (by simp)
    have hcell := hcs 0 (by simp)
    rw [Nat.add_zero] at hcell
    have g0 : gt (s :: t) 0 = s := rfl
    rw [g0] at hcell
    rw [List.length_cons] at c0
    have hl6 : t.length + 1 ≤ 65536 := h6
    have h0 : 0 < s.size := hne s (List.mem_cons_self ..)
    have hs6 : s.size ≤ 65536 := H.sh 0
    have hby := byte_at s 0 h0
    have W := word_rd w H
    rw [g0] at W
    by_cases h35 : s[0] = 35
    · have hsil : silent (s :: t) = true := by show (s.data.toList.head? == some 35) = true; rw [List.head?_eq_getElem?, hby, h35]; rfl
      have T : Hd (Told B R A w w (lineE C (s :: t)) (lineC C (s :: t))) := ⟨by unfold lineE; rw [hsil]; exact ⟨_, H⟩, fun _ => by unfold lineC; rw [hsil]; exact K, KT.refl _ _⟩
      have e35 : ((s[0].toNat : Int) == 35) = true := by rw [h35]; rfl
      clear H K hF hb hr hc hne h6 hcs hsil h35 W hby g0
      generalize t.length = m at *
      go_enter Tryd.func19, Tryd.ntmps19
      go_wp2_with fail
      (try simp only [Exit.inBlock, Exit.then])
      refine bodyPost_ret (results_none rfl _ _ _) rfl ?_
      exact ⟨rfl, T.out⟩
    · have hsil : silent (s :: t) = false := by
        show (s.data.toList.head? == some 35) = false
        rw [List.head?_eq_getElem?, hby]
        have : ¬ (some s[0] == some 35) = true := by simpa using h35
        simpa using this
      have e35 : ((s[0].toNat : Int) == 35) = false := by
        have : s[0].toNat ≠ 35 := fun h => h35 (UInt8.toNat_inj.1 h)
        simp; omega
      have eE : lineE C (s :: t) = tellE C s t := by unfold lineE; rw [hsil]; rfl
      have eC : lineC C (s :: t) = tellC C s t := by unfold lineC; rw [hsil]; rfl
      rw [eE, eC]
      have HH : Hd (Rd B w R A (s :: t) 0 ∧ Cfg B w A C ∧ Fit C) := ⟨H, K, hF⟩
      clear hb hr hc hne h6 hcs hsil h35 hby g0 eE eC H K hF
      generalize hm : t.length = m at c0 hl6
      clear hm
      by_cases hh0 : s = tTotal
      · have eE : tellE C s t = tellE C tTotal t := by rw [hh0]
        have eC : tellC C s t = tellC C tTotal t := by rw [hh0]
        rw [eE, eC]
        clear eE eC
        have y0 := str_is hh0
        rw [lst tTotal [116, 111, 116, 97, 108] rfl] at y0
        clear hh0
        have T : ∀ w1, Rd B w1 R A t 0 → Kept (fun k => k = R) w w1 → Calls Tryd.prog 31 #[.pointer (some ⟨R, 0, none⟩)] w1 fun r w' => r = .returned (.tuple #[]) ∧ Told B R A w w' (tellE C tTotal t) (tellC C tTotal t) := fun w1 h1 k1 => by
          have K1 := HH.out.2.1.free k1 HH.out.1.free
          have hF := HH.out.2.2
          refine (total_rd w1 h1 K1).mono ?_
          rintro r w' ⟨rfl, h⟩
          refine ⟨rfl, ?_⟩
          have h := h.from (HH.out.1.kt k1)
          unfold tellE tellC
          rw [if_pos rfl, if_pos rfl]
          exact h
        go_enter Tryd.func19, Tryd.ntmps19
        go_wp2_with fail
        go_at_call 30
        refine W.mono ?_
        rintro r w1 ⟨rfl, h1, k1⟩
        have T1 := T w1 h1 k1
        clear T h1 k1 HH
        go_wp2_with fail
        go_at_call 31
        refine T1.mono ?_
        rintro r w2 ⟨rfl, h2⟩
        go_wp2_with fail
        go_end0
        exact ⟨rfl, h2⟩
      by_cases h1 : s = tPeriod
      · have eE : tellE C s t = tellE C tPeriod t := by rw [h1]
        have eC : tellC C s t = tellC C tPeriod t := by rw [h1]
        rw [eE, eC]
        clear eE eC
        have y1 := str_is h1
        rw [lst tPeriod [112, 101, 114, 105, 111, 100] rfl] at y1
        have n0 := str_isnt hh0
        rw [lst tTotal [116, 111, 116, 97, 108] rfl] at n0
        clear hh0 h1
        have T : ∀ w1, Rd B w1 R A t 0 → Kept (fun k => k = R) w w1 → Calls Tryd.prog 32 #[.pointer (some ⟨R, 0, none⟩)] w1 fun r w' => r = .returned (.tuple #[]) ∧ Told B R A w w' (tellE C tPeriod t) (tellC C tPeriod t) := fun w1 h1 k1 => by
          have K1 := HH.out.2.1.free k1 HH.out.1.free
          have hF := HH.out.2.2
          refine (period_rd w1 h1 K1).mono ?_
          rintro r w' ⟨rfl, h⟩
          refine ⟨rfl, ?_⟩
          have h := h.from (HH.out.1.kt k1)
          unfold tellE tellC
          rw [if_neg (show ¬ tPeriod = tTotal by decide), if_pos rfl, if_neg (show ¬ tPeriod = tTotal by decide), if_pos rfl]
          exact h
        go_enter Tryd.func19, Tryd.ntmps19
        go_wp2_with fail
        go_at_call 30
        refine W.mono ?_
        rintro r w1 ⟨rfl, h1, k1⟩
        have T1 := T w1 h1 k1
        clear T h1 k1 HH
        go_wp2_with fail
        go_at_call 32
        refine T1.mono ?_
        rintro r w2 ⟨rfl, h2⟩
        go_wp2_with fail
        go_end0
        exact ⟨rfl, h2⟩
      by_cases h2 : s = tSeats
      · have eE : tellE C s t = tellE C tSeats t := by rw [h2]
        have eC : tellC C s t = tellC C tSeats t := by rw [h2]
        rw [eE, eC]
        clear eE eC
        have y2 := str_is h2
        rw [lst tSeats [115, 101, 97, 116, 115] rfl] at y2
        have n0 := str_isnt hh0
        rw [lst tTotal [116, 111, 116, 97, 108] rfl] at n0
        have n1 := str_isnt h1
        rw [lst tPeriod [112, 101, 114, 105, 111, 100] rfl] at n1
        clear hh0 h1 h2
        have T : ∀ w1, Rd B w1 R A t 0 → Kept (fun k => k = R) w w1 → Calls Tryd.prog 33 #[.pointer (some ⟨R, 0, none⟩)] w1 fun r w' => r = .returned (.tuple #[]) ∧ Told B R A w w' (tellE C tSeats t) (tellC C tSeats t) := fun w1 h1 k1 => by
          have K1 := HH.out.2.1.free k1 HH.out.1.free
          have hF := HH.out.2.2
          refine (seats_rd w1 h1 K1).mono ?_
          rintro r w' ⟨rfl, h⟩
          refine ⟨rfl, ?_⟩
          have h := h.from (HH.out.1.kt k1)
          unfold tellE tellC
          rw [if_neg (show ¬ tSeats = tTotal by decide), if_neg (show ¬ tSeats = tPeriod by decide), if_pos rfl, if_neg (show ¬ tSeats = tTotal by decide), if_neg (show ¬ tSeats = tPeriod by decide), if_pos rfl]
          exact h
        go_enter Tryd.func19, Tryd.ntmps19
        go_wp2_with fail
        go_at_call 30
        refine W.mono ?_
        rintro r w1 ⟨rfl, h1, k1⟩
        have T1 := T w1 h1 k1
        clear T h1 k1 HH
        go_wp2_with fail
        go_at_call 33
        refine T1.mono ?_
        rintro r w2 ⟨rfl, h2⟩
        go_wp2_with fail
        go_end0
        exact ⟨rfl, h2⟩
      by_cases h3 : s = tLevel
      · have eE : tellE C s t = tellE C tLevel t := by rw [h3]
        have eC : tellC C s t = tellC C tLevel t := by rw [h3]
        rw [eE, eC]
        clear eE eC
        have y3 := str_is h3
        rw [lst tLevel [108, 101, 118, 101, 108] rfl] at y3
        have n0 := str_isnt hh0
        rw [lst tTotal [116, 111, 116, 97, 108] rfl] at n0
        have n1 := str_isnt h1
        rw [lst tPeriod [112, 101, 114, 105, 111, 100] rfl] at n1
        have n2 := str_isnt h2
        rw [lst tSeats [115, 101, 97, 116, 115] rfl] at n2
        clear hh0 h1 h2 h3
        have T : ∀ w1, Rd B w1 R A t 0 → Kept (fun k => k = R) w w1 → Calls Tryd.prog 34 #[.pointer (some ⟨R, 0, none⟩)] w1 fun r w' => r = .returned (.tuple #[]) ∧ Told B R A w w' (tellE C tLevel t) (tellC C tLevel t) := fun w1 h1 k1 => by
          have K1 := HH.out.2.1.free k1 HH.out.1.free
          have hF := HH.out.2.2
          refine (level_rd w1 h1 K1 hF.1).mono ?_
          rintro r w' ⟨rfl, h⟩
          refine ⟨rfl, ?_⟩
          have h := h.from (HH.out.1.kt k1)
          unfold tellE tellC
          rw [if_neg (show ¬ tLevel = tTotal by decide), if_neg (show ¬ tLevel = tPeriod by decide), if_neg (show ¬ tLevel = tSeats by decide), if_pos rfl, if_neg (show ¬ tLevel = tTotal by decide), if_neg (show ¬ tLevel = tPeriod by decide), if_neg (show ¬ tLevel = tSeats by decide), if_pos rfl]
          exact h
        go_enter Tryd.func19, Tryd.ntmps19
        go_wp2_with fail
        go_at_call 30
        refine W.mono ?_
        rintro r w1 ⟨rfl, h1, k1⟩
        have T1 := T w1 h1 k1
        clear T h1 k1 HH
        go_wp2_with fail
        go_at_call 34
        refine T1.mono ?_
        rintro r w2 ⟨rfl, h2⟩
        go_wp2_with fail
        go_end0
        exact ⟨rfl, h2⟩
      by_cases h4 : s = tSchema
      · have eE : tellE C s t = tellE C tSchema t := by rw [h4]
        have eC : tellC C s t = tellC C tSchema t := by rw [h4]
        rw [eE, eC]
        clear eE eC
        have y4 := str_is h4
        rw [lst tSchema [115, 99, 104, 101, 109, 97] rfl] at y4
        have n0 := str_isnt hh0
        rw [lst tTotal [116, 111, 116, 97, 108] rfl] at n0
        have n1 := str_isnt h1
        rw [lst tPeriod [112, 101, 114, 105, 111, 100] rfl] at n1
        have n2 := str_isnt h2
        rw [lst tSeats [115, 101, 97, 116, 115] rfl] at n2
        have n3 := str_isnt h3
        rw [lst tLevel [108, 101, 118, 101, 108] rfl] at n3
        clear hh0 h1 h2 h3 h4
        have T : ∀ w1, Rd B w1 R A t 0 → Kept (fun k => k = R) w w1 → Calls Tryd.prog 35 #[.pointer (some ⟨R, 0, none⟩)] w1 fun r w' => r = .returned (.tuple #[]) ∧ Told B R A w w' (tellE C tSchema t) (tellC C tSchema t) := fun w1 h1 k1 => by
          have K1 := HH.out.2.1.free k1 HH.out.1.free
          have hF := HH.out.2.2
          refine (schema_rd w1 h1 K1 hF.2).mono ?_
          rintro r w' ⟨rfl, h⟩
          refine ⟨rfl, ?_⟩
          have h := h.from (HH.out.1.kt k1)
          unfold tellE tellC
          rw [if_neg (show ¬ tSchema = tTotal by decide), if_neg (show ¬ tSchema = tPeriod by decide), if_neg (show ¬ tSchema = tSeats by decide), if_neg (show ¬ tSchema = tLevel by decide), if_pos rfl, if_neg (show ¬ tSchema = tTotal by decide), if_neg (show ¬ tSchema = tPeriod by decide), if_neg (show ¬ tSchema = tSeats by decide), if_neg (show ¬ tSchema = tLevel by decide), if_pos rfl]
          exact h
        go_enter Tryd.func19, Tryd.ntmps19
        go_wp2_with fail
        go_at_call 30
        refine W.mono ?_
        rintro r w1 ⟨rfl, h1, k1⟩
        have T1 := T w1 h1 k1
        clear T h1 k1 HH
        go_wp2_with fail
        go_at_call 35
        refine T1.mono ?_
        rintro r w2 ⟨rfl, h2⟩
        go_wp2_with fail
        go_end0
        exact ⟨rfl, h2⟩
      by_cases h5 : s = tRule
      · have eE : tellE C s t = tellE C tRule t := by rw [h5]
        have eC : tellC C s t = tellC C tRule t := by rw [h5]
        rw [eE, eC]
        clear eE eC
        have y5 := str_is h5
        rw [lst tRule [114, 117, 108, 101] rfl] at y5
        have n0 := str_isnt hh0
        rw [lst tTotal [116, 111, 116, 97, 108] rfl] at n0
        have n1 := str_isnt h1
        rw [lst tPeriod [112, 101, 114, 105, 111, 100] rfl] at n1
        have n2 := str_isnt h2
        rw [lst tSeats [115, 101, 97, 116, 115] rfl] at n2
        have n3 := str_isnt h3
        rw [lst tLevel [108, 101, 118, 101, 108] rfl] at n3
        have n4 := str_isnt h4
        rw [lst tSchema [115, 99, 104, 101, 109, 97] rfl] at n4
        clear hh0 h1 h2 h3 h4 h5
        have T : ∀ w1, Rd B w1 R A t 0 → Kept (fun k => k = R) w w1 → Calls Tryd.prog 36 #[.pointer (some ⟨R, 0, none⟩)] w1 fun r w' => r = .returned (.tuple #[]) ∧ Told B R A w w' (tellE C tRule t) (tellC C tRule t) := fun w1 h1 k1 => by
          have K1 := HH.out.2.1.free k1 HH.out.1.free
          have hF := HH.out.2.2
          refine (rule_rd w1 h1 K1 hF.2).mono ?_
          rintro r w' ⟨rfl, h⟩
          refine ⟨rfl, ?_⟩
          have h := h.from (HH.out.1.kt k1)
          unfold tellE tellC
          rw [if_neg (show ¬ tRule = tTotal by decide), if_neg (show ¬ tRule = tPeriod by decide), if_neg (show ¬ tRule = tSeats by decide), if_neg (show ¬ tRule = tLevel by decide), if_neg (show ¬ tRule = tSchema by decide), if_pos rfl, if_neg (show ¬ tRule = tTotal by decide), if_neg (show ¬ tRule = tPeriod by decide), if_neg (show ¬ tRule = tSeats by decide), if_neg (show ¬ tRule = tLevel by decide), if_neg (show ¬ tRule = tSchema by decide)]
          exact h
        go_enter Tryd.func19, Tryd.ntmps19
        go_wp2_with fail
        go_at_call 30
        refine W.mono ?_
        rintro r w1 ⟨rfl, h1, k1⟩
        have T1 := T w1 h1 k1
        clear T h1 k1 HH
        go_wp2_with fail
        go_at_call 36
        refine T1.mono ?_
        rintro r w2 ⟨rfl, h2⟩
        go_wp2_with fail
        go_end0
        exact ⟨rfl, h2⟩
      have eE : tellE C s t = 2 := by unfold tellE; rw [if_neg hh0, if_neg h1, if_neg h2, if_neg h3, if_neg h4, if_neg h5]
      have n0 := str_isnt hh0
      rw [lst tTotal [116, 111, 116, 97, 108] rfl] at n0
      have n1 := str_isnt h1
      rw [lst tPeriod [112, 101, 114, 105, 111, 100] rfl] at n1
      have n2 := str_isnt h2
      rw [lst tSeats [115, 101, 97, 116, 115] rfl] at n2
      have n3 := str_isnt h3
      rw [lst tLevel [108, 101, 118, 101, 108] rfl] at n3
      have n4 := str_isnt h4
      rw [lst tSchema [115, 99, 104, 101, 109, 97] rfl] at n4
      have n5 := str_isnt h5
      rw [lst tRule [114, 117, 108, 101] rfl] at n5
      rw [eE]
      generalize tellC C s t = CC
      clear eE hh0 h1 h2 h3 h4 h5
      go_enter Tryd.func19, Tryd.ntmps19
      go_wp2_with fail
      go_at_call 30
      refine W.mono ?_
      rintro r w1 ⟨rfl, h1, k1⟩
      have M := must_ok w1 h1 false 2
      rw [mu_zero, ifE_no] at M
      have HK := HH.out.1.kt k1
      clear HH
      go_wp2_with fail
      go_at_call 37
      refine M.mono ?_
      rintro r w2 ⟨rfl, h2, k2⟩
      go_wp2_with fail
      go_end0
      exact ⟨rfl, ⟨_, h2⟩, fun h => absurd h (by decide), HK.trans (h1.kt k2)⟩

end Go.Proofs.YtaodckojinbdfaaDoor
