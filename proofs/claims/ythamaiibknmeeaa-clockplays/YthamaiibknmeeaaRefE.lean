/-
  What 'Advance' of the reference answers. Conditions: as the theorem says them.
-/
import Derived.Test.YthamaiibknmeeaaRefD
namespace Go.Proofs.Ythamaiibknmeeaa
open Go.RowKit Go.Lib Go.Sort Go.Maps

/-- What 'first' answers. -/
def FirstIs (K : List (Int × Int)) (q : Int) : Prop := (K = [] ∧ q = -1) ∨ ∃ p : Nat, q = p ∧ Least K K.length p

theorem first_any {B : Nat} {w : World} {rb : Nat} {v : Value} {t : Int} {K : List (Int × Int)} (h : Ref B w rb v t K) :
    Calls Try.prog 28 #[.pointer (some ⟨rb, 0, none⟩)] w fun e w' => ∃ q, e = .returned (.int .i64 q) ∧ FirstIs K q ∧ Below w.heap.size w w' := by
  rcases Nat.eq_zero_or_pos K.length with c | c
  · obtain rfl := List.length_eq_zero_iff.1 c
    refine (first_none h).mono ?_
    rintro e w' ⟨rfl, rfl⟩
    exact ⟨-1, rfl, .inl ⟨rfl, rfl⟩, Below.refl _ _⟩
  · refine (first_some h c).mono ?_
    rintro e w' ⟨p, rfl, hp, b⟩
    exact ⟨p, rfl, .inr ⟨p, rfl, hp⟩, b⟩

/-- The state of 'Advance' between two rounds. -/
structure Mid (B : Nat) (w : World) (rb : Nat) (v : Value) (to : Int) (K : List (Int × Int)) (wr : World) (out v' : Value) (L K' : List (Int × Int)) : Prop where
  ref : Ref B wr rb v' to K'
  own : DOwn w.heap.size wr out L
  ne : ∀ g, out.ownBlock = some g → v'.ownBlock ≠ some g
  told : Told to (fun y => y ∈ K) (fun y => y ∈ K') L
  len : K'.length + L.length = K.length
  ids : Ids K'
  kept : Kept (Of rb v) w wr
  hv : ∀ g, v'.ownBlock = some g → v.ownBlock = some g ∨ w.heap.size ≤ g

theorem Mid.below {B : Nat} {w : World} {rb : Nat} {v : Value} {to : Int} {K : List (Int × Int)} {wr w' : World} {out v' : Value} {L K' : List (Int × Int)} (h : Mid B w rb v to K wr out v' L K') (b : Below wr.heap.size wr w') : Mid B w rb v to K w' out v' L K' :=
  ⟨h.ref.below b, h.own.below b, h.ne, h.told, h.len, h.ids, h.kept.trans (Kept.of_below b _), h.hv⟩

theorem Told.congr {to : Int} {M N N' : Int × Int → Prop} {L : List (Int × Int)} (h : Told to M N L) (e : ∀ y, N' y ↔ N y) : Told to M N' L :=
  ⟨h.order, h.was, fun y => (e y).trans (h.rest y), fun y hy z hz => h.first y hy z ((e z).1 hz)⟩

/-- One round of it. -/
theorem Mid.step {B : Nat} {w : World} {rb : Nat} {v : Value} {to : Int} {K : List (Int × Int)} {wr : World} {out v' : Value} {L K' : List (Int × Int)} (h : Mid B w rb v to K wr out v' L K') (hB : B ≤ w.heap.size) (hrl : rb < w.heap.size) {p : Nat} (hpl : p < K'.length) {x : Int × Int} (tm : Told to (fun y => y ∈ K) (fun y => y ∈ K'.eraseIdx p) (L ++ [x]))
    {w5 w6 : World} {g' c' : Nat} {v6 : Value} (k5 : Kept (fun j => out.ownBlock = some j) wr w5) (hown : w5.ownsRow w.heap.size 43 2 (.slice (some ⟨g', 0, none⟩) (L.length + 1) c') (L.length + 1) (dcl L ++ dcl [x])) (hat : out.ownBlock = some g' ∨ g' = wr.heap.size + 1) (hlt : g' < w5.heap.size) (D6 : DOwn w5.heap.size w6 v6 (K'.eraseIdx p)) (b6 : Below w5.heap.size w5 w6) :
    (w6.cell? ⟨rb, 1, none⟩ = some v' ∧ w6.frozen? ⟨rb, 1, none⟩ = false) ∧ Mid B w rb v to K (w6.setCell ⟨rb, 1, none⟩ v6) (.slice (some ⟨g', 0, none⟩) (L.length + 1) c') v6 (L ++ [x]) (K'.eraseIdx p) := by
  have norb : ¬ out.ownBlock = some rb := fun e => by have := (World.ownsRow.lt h.own rb e).1; omega
  have R5 : Ref B w5 rb v' to K' := h.ref.kept k5 norb (fun g e e' => h.ne g e' e)
  have hws := h.kept.size
  have hw5 : w.heap.size ≤ w5.heap.size := Nat.le_trans hws k5.size
  have hv6 : ∀ g, v6.ownBlock = some g → v'.ownBlock = some g ∨ w5.heap.size ≤ g := fun g e => .inr (World.ownsRow.lt D6 g e).1
  have hl := len_erase hpl
  have hn := h.ref.n
  obtain ⟨q1, q2⟩ := R5.stored (Kept.of_below b6 _) (D6.mono (Nat.le_trans hB hw5)) hv6 (by omega)
  have r1 := (b6.cell (p := ⟨rb, 1, none⟩) R5.lt).trans R5.c1
  have r2 := (b6.frozen (p := ⟨rb, 1, none⟩) R5.lt).trans R5.f1
  have hg' := (hown.lt g' rfl).1
  have ngv : v'.ownBlock ≠ some g' := by
    rcases hat with e | e
    · exact h.ne g' e
    · intro e'
      have := (World.ownsRow.lt h.ref.own g' e').2
      omega
  have D5 : DOwn w.heap.size w5 (.slice (some ⟨g', 0, none⟩) (L.length + 1) c') (L ++ [x]) := by
    show w5.ownsRow _ _ _ _ _ _
    rw [List.length_append, dcl_append]
    exact hown
  have hll := h.len
  refine ⟨⟨r1, r2⟩, q1, D5.kept q2 fun g e => ?_, fun g e e' => ?_, tm, by rw [List.length_append]; simp; omega, h.ids.erase p, (h.kept.then k5 fun j hj e => ?_).then q2 fun j hj e => ?_, fun g e => .inr (Nat.le_trans hw5 (World.ownsRow.lt D6 g e).1)⟩
  · obtain rfl : g' = g := by simpa [Value.ownBlock] using e
    rintro (a | a)
    · omega
    · exact ngv a
  · obtain rfl : g' = g := by simpa [Value.ownBlock] using e
    have := (World.ownsRow.lt D6 g' e').1
    omega
  · have := (World.ownsRow.lt h.own j e).1
    omega
  · rcases e with e | e
    · exact .inl e
    · rcases h.hv j e with a | a
      · exact .inr a
      · omega

/-- All of a list are later. -/
def Later (K : List (Int × Int)) (to : Int) : Prop := ∀ y, y ∈ K → to < y.1

set_option maxRecDepth 20000 in
set_option maxHeartbeats 2000000 in
theorem radvance_ok {B : Nat} {w : World} {rb : Nat} {v : Value} {t : Int} {K : List (Int × Int)} (h : Ref B w rb v t K) (hB : B ≤ w.heap.size) (hi : Ids K) (to : Int) (c : t ≤ to) (c2 : to ≤ 1099511627776) :
    Calls Try.prog 15 #[.pointer (some ⟨rb, 0, none⟩), .int .i64 to] w fun e w' => ∃ out L v' K', e = .returned (.tuple #[out, .int .i64 0]) ∧ Mid B w rb v to K w' out v' L K' ∧ Later K' to := by
  obtain ⟨i0, hi0, hz0, hz1, hz2⟩ := info_parts Try.info43
  have c0 := h.c0
  have f0 := h.f0
  have hn := h.n
  have hrl := h.lt
  have M0 : Mid B w rb v to K (w.setCell ⟨rb, 0, none⟩ (.int .i64 to)) (.slice none 0 0) v [] K :=
    ⟨h.setNow to, DOwn.nil _ _, fun g e => (by cases e), Told.nil to _, rfl, hi, (Kept.refl _ w).setCell _ _ (.inl rfl), fun g e => .inl e⟩
  have F0 := first_any M0.ref
  clear h hi
  go_enter Try.func15, Try.ntmps15
  go_wp2_with fail
  go_at_call 28
  refine F0.mono ?_
  rintro e w1 ⟨q, rfl, hq, b1⟩
  have M1 := M0.below b1
  clear F0 M0 b1 c0 f0
  go_wp2_with fail
  go_loopw [6, 7] (fun out i wr => ∃ v' L K' q, i = .int .i64 q ∧ FirstIs K' q ∧ Mid B w rb v to K wr out v' L K') (fun out _ _ => K.length - lenOf out)
  case atStart => exact ⟨v, [], K, q, rfl, hq, M1⟩
  case round =>
    obtain ⟨v', L, K', q, rfl, hq, MM⟩ := hrel
    clear M1
    have r1 := MM.ref.c1
    have hlen := MM.len
    obtain ⟨oa, oc, rfl, _, _, _, _⟩ := MM.own.form
    rcases hq with ⟨rfl, rfl⟩ | ⟨p, rfl, hp⟩
    · go_wp2
      go_ret2
      exact ⟨_, L, v', [], rfl, MM, fun y hy => (by cases hy)⟩
    · have hpl := hp.1
      have i1 : (p : Int) < (K'.length : Int) := by omega
      have i2 : (0 : Int) ≤ (p : Int) := by omega
      obtain ⟨va, vc, rfl, _⟩ := MM.ref.own.form
      obtain ⟨g, rfl, hc⟩ := MM.ref.own.at hpl
      obtain ⟨hx1, hx2⟩ := hp.mem
      have ME := MM.ids.mem_erase hpl
      have d0 : wr.cell? ⟨g, p * 2, none⟩ = some (.int .i64 (K'.getD p (0, 0)).2) := (hc p hpl).1
      have d1 : wr.cell? ⟨g, p * 2 + 1, none⟩ = some (.int .i64 (K'.getD p (0, 0)).1) := (hc p hpl).2
      generalize K'.getD p (0, 0) = x at *
      clear hc hp
      by_cases c3 : x.1 ≤ to
      · have TM := MM.told.more ⟨hx1, hx2⟩ (fun y z hy hz e => MM.ids.eq hy hz e) c3
        have WI : ∀ w5, Kept (fun j => (Value.slice oa L.length oc).ownBlock = some j) wr w5 → Calls Try.prog 26 #[.slice (some ⟨g, 0, none⟩) K'.length vc, .int .i64 p] w5 fun e w' => ∃ v', e = .returned v' ∧ DOwn w5.heap.size w' v' (K'.eraseIdx p) ∧ Below w5.heap.size w5 w' :=
          fun w5 k5 => without_any K' w5 (MM.ref.own.kept k5 fun g e e' => MM.ne g e' e) MM.ref.n p hpl
        have hws := MM.kept.size
        have DN := due_new wr x
        have D4 : (wr.alloc (.cells #[.int .i64 x.2, .int .i64 x.1] 43)).ownsRow w.heap.size 43 2 (.slice oa L.length oc) L.length (dcl L) := World.ownsRow.alloc MM.own _
        have K4 : ∀ w5, (wr.alloc (.cells #[.int .i64 x.2, .int .i64 x.1] 43)).grownBy w5 (Value.slice oa L.length oc).ownBlock → Kept (fun j => (Value.slice oa L.length oc).ownBlock = some j) wr w5 := fun w5 hg => ((Kept.refl _ wr).alloc _).trans (Kept.of_grown hg fun j e => e)
        have norb : ¬ (Value.slice oa L.length oc).ownBlock = some rb := fun e => by
          have := (World.ownsRow.lt MM.own rb e).1
          omega
        have hK' := MM.ref.n
        go_wp2_with (at_builtin; refine wpList_append_lies _ rfl (.tmp 40) (.tmp 48) 26 rfl w.heap.size 43 i0 (.agg #[.int .i64 0, .int .i64 0]) 2 16 Try.underlying26 hi0 hz0 hz1 hz2 rfl (by decide) (.slice oa L.length oc) L.length (dcl L) rfl D4 ⟨wr.heap.size, 0, none⟩ 1 1 (dcl [x]) rfl rfl DN (dcl_one _) (by decide) (by unfold maxLen; omega) (by omega) (by simp; omega) (wr.heap.size + 1) (by simp) ?_; intro g' c' w5 hown' hgrow hat hlt'; have k5 := K4 w5 hgrow; have s1 := (k5.cell (o := 1) MM.ref.lt norb).trans r1)
        clear K4 D4 DN hgrow
        go_at_call 26
        refine (WI w5 k5).mono ?_
        rintro e w6 ⟨v6, rfl, D6, b6⟩
        obtain ⟨⟨r2, r3⟩, M7⟩ := MM.step hB hrl hpl (TM.congr ME) k5 hown' hat hlt' D6 b6
        have F7 := first_any M7.ref
        obtain ⟨a6, c6, rfl, _⟩ := D6.form
        have hll := M7.len
        clear WI MM TM ME D6 b6 k5 hown' hat hlt' r1 s1 hx2 d0 d1
        go_wp2_with fail
        go_at_call 28
        refine F7.mono ?_
        rintro e w8 ⟨q', rfl, hq', b8⟩
        have M8 := M7.below b8
        clear F7 M7 b8
        go_wp2
        go_roundw
        case rel => exact ⟨_, _, _, q', rfl, hq', M8⟩
        case measure => simp [lenOf]; simp at hll; omega
      · have hall : Later K' to := fun y hy => by have := hx2 y hy; unfold lt at this; omega
        clear ME hx2
        go_wp2
        go_ret2
        exact ⟨_, rfl, L, _, K', MM, hall⟩
end Go.Proofs.Ythamaiibknmeeaa
