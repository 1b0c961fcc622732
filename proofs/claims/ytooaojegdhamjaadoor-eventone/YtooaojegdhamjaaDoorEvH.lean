/-
  The line that the program writes of an event. Conditions: the event's texts have at most 20000 bytes each, its numbers fit their type, its groups lie in memory, the table of powers lies in memory.
-/
import Derived.Test.YtooaojegdhamjaaDoorEvG
import Derived.Test.YtooaojegdhamjaaDoorOrQ
namespace Go.Proofs.YtooaojegdhamjaaDoor
open Go.RowKit Go.Lib

theorem row_lit (w : World) (L : List ByteArray) : RowL (w.alloc (.cells (L.map Value.string).toArray 9)) (some ⟨w.heap.size, 0, none⟩) L := fun _ => by
  refine ⟨w.heap.size, 0, rfl, by simp, fun k hk => ?_⟩
  rw [Nat.zero_add, (Blk.new w 9 (L.map Value.string).toArray).cell k]
  rw [gt_eq hk]
  simp [hk]
theorem jn_size (x y : ByteArray) (r : List ByteArray) : (jn (x :: y :: r)).size = x.size + 1 + (jn (y :: r)).size := by
  have := jn_cons x y r
  have h : (jn (x :: y :: r)).data.toList.length = (x.data.toList ++ 32 :: (jn (y :: r)).data.toList).length := by rw [this]
  rw [List.length_append, List.length_cons, size_list, size_list, size_list] at h
  omega
theorem digB_len (n : Int) (h : n ≤ 9223372036854775807) : (digB n).size ≤ 19 := by
  rw [digB_size]
  exact dec_len _ 19 (by decide) (by omega)
theorem joinB_len (L : List ByteArray) : (joinB L).size ≤ 600 := by
  unfold joinB
  by_cases h0 : L = []
  · rw [if_pos h0]; decide
  rw [if_neg h0]
  by_cases h1 : L = [mk [42]]
  · rw [if_pos h1]; decide
  rw [if_neg h1]
  cases hg : good L with
  | false => rw [if_neg (by decide)]; decide
  | true =>
    rw [if_pos rfl, ← size_list, mk_list]
    have h := good_iff.1 hg
    have hw := good_words h
    have h8 := h.1
    cases L with
    | nil => exact absurd rfl h0
    | cons x r =>
      rw [List.map_cons, join_cons, List.length_append]
      have h1 := word_short (hw x (List.mem_cons_self ..))
      rw [← size_list] at h1
      have h2 := tail_len 44 (r.map (·.data.toList)) (fun y hy => by
        obtain ⟨z, hz, rfl⟩ := List.mem_map.1 hy
        have := word_short (hw z (List.mem_cons_of_mem _ hz))
        rwa [← size_list] at this)
      rw [List.length_map] at h2
      rw [List.length_cons] at h8
      omega
theorem spW_len {s : ByteArray} (h : s.size ≤ 20000) : (spW s).size ≤ 20000 := by
  unfold spW
  by_cases hs : s = tx0
  · rw [if_pos hs]; decide
  · rw [if_neg hs]; exact h

theorem join_sp (a : Option Addr) (c : Nat) (L : List ByteArray) (w : World) (hr : RowL w a L) (hc : L.length ≤ c) (hne : 0 < L.length) (hm : L.length ≤ 10) (hlen : (jn L).size ≤ 140737488355328) :
    Calls Tryd.prog 21 #[.slice a L.length c] w fun e w' => e = .returned (.string (jn L)) ∧ Below w.heap.size w w' := by
  obtain ⟨b, off, rfl, hb, hcs⟩ := hr hne
  have J : Calls Tryd.prog 39 #[.slice (some ⟨b, off, none⟩) L.length c, .string ⟨#[32]⟩] w fun e w' => e = .returned (.string (jn L)) ∧ Below w.heap.size w w' :=
    Any.strings_Join Tryd.laysJoin xJoin b off c L ⟨#[32]⟩ w (fun j x hj => by
      have hk : j < L.length := (List.getElem?_eq_some_iff.1 hj).1
      rw [hcs j hk, gt_eq hk, (List.getElem?_eq_some_iff.1 hj).2]) hb (by omega) hc (by rw [← size_list] at hlen; unfold jn at hlen; rw [mk_list] at hlen; exact hlen)
  clear hcs hr
  generalize jn L = x at *
  generalize L.length = n at *
  go_enter Tryd.func21, Tryd.ntmps21
  go_wp2_with (go_at_call 39; refine J.mono ?_; rintro e w' ⟨rfl, hb⟩)
  go_ret
  exact ⟨rfl, hb⟩

theorem load_ok (t : ByteArray) (w : World) (ht : t.size ≤ 20000) :
    Calls Tryd.prog 24 #[.string t] w fun e w' => e = .returned (.string (loadL t)) ∧ Below w.heap.size w w' := by
  by_cases h0 : t = tx0
  · have e1 : loadL t = ⟨#[108, 111, 97, 100]⟩ := by unfold loadL; rw [if_pos h0]; rfl
    rw [e1, h0]
    show Calls Tryd.prog 24 #[.string ⟨#[]⟩] w _
    clear e1 h0 ht
    go_enter Tryd.func24, Tryd.ntmps24
    go_wp2_with fail
    go_ret
    exact ⟨rfl, Below.refl _ _⟩
  · have e1 : loadL t = jn [wLoad, mk (mpL 10 59 t.data.toList)] := by unfold loadL; rw [if_neg h0]
    rw [e1]
    have hne := empty_no h0
    have R := replAll_ok 10 59 (by decide) t w (by omega)
    have hx : (mk (mpL 10 59 t.data.toList)).size ≤ 20000 := by rw [← size_list, mk_list, mpL_len, size_list]; exact ht
    clear h0 e1
    generalize mk (mpL 10 59 t.data.toList) = x at *
    have HJ : Hd (∀ v : World, Calls Tryd.prog 21 #[.slice (some ⟨v.heap.size, 0, none⟩) 2 2] (v.alloc (.cells #[.string ⟨#[108, 111, 97, 100]⟩, .string x] 9)) fun e w' => e = .returned (.string (jn [wLoad, x])) ∧ Below (v.heap.size + 1) (v.alloc (.cells #[.string ⟨#[108, 111, 97, 100]⟩, .string x] 9)) w') := ⟨fun v => by
      have := join_sp _ 2 [wLoad, x] (v.alloc (.cells #[.string ⟨#[108, 111, 97, 100]⟩, .string x] 9)) (row_lit v [wLoad, x]) (Nat.le_refl 2) (by simp) (by simp) (by rw [jn_size, jn_one]; have : wLoad.size = 4 := rfl; omega)
      simpa using this⟩
    generalize jn [wLoad, x] = y at *
    go_enter Tryd.func24, Tryd.ntmps24
    go_wp2_with (first
      | (go_at_call 16; refine R.mono ?_; rintro e w1 ⟨rfl, hb1⟩)
      | (go_at_call 21; refine (HJ.out _).mono ?_; rintro e w2 ⟨rfl, hb2⟩))
    go_ret
    exact ⟨rfl, (hb1.trans ((alloc_below _ _).mono hb1.size)).trans (hb2.mono (by have := hb1.size; omega))⟩

/-- What an event's numbers and texts keep to. -/
def I64 (n : Int) : Prop := -9223372036854775808 ≤ n ∧ n ≤ 9223372036854775807
def Sz (s : ByteArray) : Prop := s.size ≤ 20000
set_option maxRecDepth 20000 in
set_option maxHeartbeats 2000000 in
theorem req_ok (e : Ev) (a : Option Addr) (c : Nat) (w : World) (hr : RowL w a e.g) (hc : e.g.length ≤ c) (hS : Short e.g) (hn : e.g.length ≤ 9223372036854775807) (h1 : Sz e.u) (h2 : Sz e.v) (h3 : Sz e.r) (h4 : Sz e.s) (ho : I64 e.o) (hT : Tab w) :
    Calls Tryd.prog 23 #[.agg #[.string e.u, .slice a e.g.length c, .string e.v, .string e.r, .string e.s, .int .i64 e.o]] w fun q w' => q = .returned (.string (rqE e)) ∧ Below w.heap.size w w' := by
  have hq : rqE e = jn [e.u, joinB e.g, e.v, e.r, spW e.s, digB e.o] := rfl
  have hlen : (jn [e.u, joinB e.g, e.v, e.r, spW e.s, digB e.o]).size ≤ 140737488355328 := by
    rw [jn_size, jn_size, jn_size, jn_size, jn_size, jn_one]
    have := joinB_len e.g
    have := digB_len e.o ho.2
    have := spW_len h4
    unfold Sz at h1 h2 h3 h4
    omega
  rw [hq]
  clear hq
  obtain ⟨w1, hw1⟩ : ∃ w1, w1 = w.alloc (.cells #[.string e.u, .slice a e.g.length c, .string e.v, .string e.r, .string e.s, .int .i64 e.o] 24) := ⟨_, rfl⟩
  have B1 : Below w.heap.size w w1 := by rw [hw1]; exact alloc_below _ _
  have N1 : Blk w1 w.heap.size 24 #[.string e.u, .slice a e.g.length c, .string e.v, .string e.r, .string e.s, .int .i64 e.o] := by rw [hw1]; exact Blk.new _ _ _
  have HW : Hd (∀ W, Below w1.heap.size w1 W → Blk W w.heap.size 24 #[.string e.u, .slice a e.g.length c, .string e.v, .string e.r, .string e.s, .int .i64 e.o] ∧ Below w.heap.size w W) := ⟨fun W b => ⟨N1.kept (Kept.of_below b (fun _ => False)) id, B1.trans (b.mono B1.size)⟩⟩
  have HJ : Hd (∀ W, Below w1.heap.size w1 W → Calls Tryd.prog 41 #[.slice a e.g.length c] W fun q w' => q = .returned (.string (joinB e.g)) ∧ Below W.heap.size W w') := ⟨fun W b => join_ok a c e.g W (hr.carry (B1.trans (b.mono B1.size))) hS hc hn⟩
  have HD : Hd (∀ W, Below w1.heap.size w1 W → Calls Tryd.prog 22 #[.int .i64 e.o] W fun q w' => q = .returned (.string (digB e.o)) ∧ Below W.heap.size W w') := ⟨fun W b => digits_ok e.o ho.1 ho.2 W (hT.stays (B1.trans (b.mono B1.size)))⟩
  have HS : Hd (∀ v : World, Calls Tryd.prog 21 #[.slice (some ⟨v.heap.size, 0, none⟩) 6 6] (v.alloc (.cells #[.string e.u, .string (joinB e.g), .string e.v, .string e.r, .string (spW e.s), .string (digB e.o)] 9)) fun q w' => q = .returned (.string (jn [e.u, joinB e.g, e.v, e.r, spW e.s, digB e.o])) ∧ Below (v.heap.size + 1) (v.alloc (.cells #[.string e.u, .string (joinB e.g), .string e.v, .string e.r, .string (spW e.s), .string (digB e.o)] 9)) w') := ⟨fun v => by
    have := join_sp _ 6 [e.u, joinB e.g, e.v, e.r, spW e.s, digB e.o] (v.alloc (.cells #[.string e.u, .string (joinB e.g), .string e.v, .string e.r, .string (spW e.s), .string (digB e.o)] 9)) (row_lit v [e.u, joinB e.g, e.v, e.r, spW e.s, digB e.o]) (Nat.le_refl 6) (by simp) (by simp) hlen
    simpa using this⟩
  have X : Hd (∀ W, Below w1.heap.size w1 W → (W.cell? ⟨w.heap.size, 0, none⟩ = some (.string e.u) ∧ W.cell? ⟨w.heap.size, 1, none⟩ = some (.slice a e.g.length c) ∧ W.cell? ⟨w.heap.size, 2, none⟩ = some (.string e.v) ∧ W.cell? ⟨w.heap.size, 3, none⟩ = some (.string e.r) ∧ W.cell? ⟨w.heap.size, 4, none⟩ = some (.string e.s) ∧ W.cell? ⟨w.heap.size, 5, none⟩ = some (.int .i64 e.o))) := ⟨fun W b => by
    have N2 := (HW.out W b).1
    exact ⟨N2.cellv 0 rfl, N2.cellv 1 rfl, N2.cellv 2 rfl, N2.cellv 3 rfl, N2.cellv 4 rfl, N2.cellv 5 rfl⟩⟩
  have HB : Hd (∀ W, Below w1.heap.size w1 W → Below w.heap.size w W) := ⟨fun W b => B1.trans (b.mono B1.size)⟩
  have hsp : spW e.s = spW e.s := rfl
  clear N1 B1 HW hr hS hc hn h1 h2 h3 hT hlen hsp
  generalize hjj : jn [e.u, joinB e.g, e.v, e.r, spW e.s, digB e.o] = y at *
  clear hjj
  generalize joinB e.g = jg at *
  generalize digB e.o = dg at *
  generalize e.g.length = m at *
  have hz : spW e.s = (if e.s = tx0 then wDash else e.s) := rfl
  have HZ := Hd.mk hz
  clear hz ho h4
  generalize spW e.s = sp at *
  generalize e.u = u at *
  generalize e.v = v at *
  generalize e.r = r at *
  generalize e.o = o at *
  generalize e.s = s at *
  by_cases hs : s = tx0
  · have hsp : sp = ⟨#[45]⟩ := by rw [HZ.out, if_pos hs]; rfl
    subst hsp
    have hs' : s = ⟨#[]⟩ := hs
    subst hs'
    clear HZ hs
    have c4 := (X.out w1 (Below.refl _ _)).2.2.2.2.1
    go_enter Tryd.func23, Tryd.ntmps23
    go_upto_region 4 with fail
    rw [← hw1]
    clear hw1 c4
    generalize hg : w.heap.size = g at *
    have HG := Hd.mk hg
    clear hg
    have B3 : Below w1.heap.size w1 w1.drew := (Below.refl _ _).drew
    refine AnyG.start (T := fun W => Below w1.heap.size w1 W) (U := fun _ => True) (j0 := 100) (by kernel_rfl) ?_
    generalize w1.drew = w3 at *
    refine .tq 0 8 B3 ?_; simp only [tkA, tkB, tkC]
    refine .tq 1 9 B3 ?_ (hy := fun w hSw => by obtain ⟨s0, s1, s2, s3, s4, s5⟩ := X.out w hSw; go_simp; rfl); simp only [tkA, tkB, tkC]
    refine .tq 2 10 B3 ?_; simp only [tkA, tkB, tkC]
    refine .tq 3 11 B3 ?_ (hy := fun w hSw => by obtain ⟨s0, s1, s2, s3, s4, s5⟩ := X.out w hSw; go_simp; rfl); simp only [tkA, tkB, tkC]
    refine .tq 5 13 B3 ?_; simp only [tkA, tkB, tkC]
    refine .tq 6 14 B3 ?_ (hy := fun w hSw => by obtain ⟨s0, s1, s2, s3, s4, s5⟩ := X.out w hSw; go_simp; rfl); simp only [tkA, tkB, tkC]
    refine .tq 7 15 B3 ?_; simp only [tkA, tkB, tkC]
    refine .tq 8 16 B3 ?_ (hy := fun w hSw => by obtain ⟨s0, s1, s2, s3, s4, s5⟩ := X.out w hSw; go_simp; rfl); simp only [tkA, tkB, tkC]
    refine .tq 9 17 B3 ?_; simp only [tkA, tkB, tkC]
    refine .tq 10 18 B3 ?_; simp only [tkA, tkB, tkC]
    refine .tq 11 19 B3 ?_ (hy := fun w hSw => by obtain ⟨s0, s1, s2, s3, s4, s5⟩ := X.out w hSw; go_simp; rfl); simp only [tkA, tkB, tkC]
    refine AnyG.ready (rs := [4]) (by kernel_rfl) (by simp) ?_
    refine AllG.cons rfl (fun K hK => ?_) AllG.nil
    go_simp
    refine (HJ.out w3 B3).mono ?_
    rintro e w4 ⟨rfl, b4⟩
    have B4 : Below w1.heap.size w1 w4 := B3.trans (b4.mono B3.size)
    refine hK.out _ _ ⟨B4, fun _ => trivial⟩ ?_
    clear hK K b4 B3
    refine AnyG.ready (rs := [12]) (by kernel_rfl) (by simp) ?_
    refine AllG.cons rfl (fun K hK => ?_) AllG.nil
    go_simp
    refine (HD.out w4 B4).mono ?_
    rintro e w5 ⟨rfl, b5⟩
    have B5 : Below w1.heap.size w1 w5 := B4.trans (b5.mono B4.size)
    refine hK.out _ _ ⟨B5, fun _ => trivial⟩ ?_
    clear hK K b5 B4
    refine AnyG.ready (rs := [13]) (by kernel_rfl) (by simp) ?_
    refine AllG.cons rfl (fun K hK => ?_) AllG.nil
    go_simp
    have B6 : Below w1.heap.size w1 (w5.alloc (.cells #[.string u, .string jg, .string v, .string r, .string ⟨#[45]⟩, .string dg] 9)) := B5.trans ((alloc_below _ _).mono B5.size)
    refine hK.out _ _ ⟨B6, fun _ => trivial⟩ ?_
    clear hK K
    refine AnyG.ready (rs := [14]) (by kernel_rfl) (by simp) ?_
    refine AllG.cons rfl (fun K hK => ?_) AllG.nil
    go_simp
    refine (HS.out w5).mono ?_
    rintro e w7 ⟨rfl, b7⟩
    have B7 : Below w1.heap.size w1 w7 := B6.trans (b7.mono (Nat.le_trans B5.size (Nat.le_succ _)))
    refine hK.out _ _ ⟨B7, fun _ => trivial⟩ ?_
    clear hK K b7 B6 B5
    refine .tq 15 2 B7 ?_ ; simp only [tkA, tkB, tkC]
    refine AnyG.done (by kernel_rfl) ?_ _
    have HF : Hd (Below g w w7) := ⟨HB.out w7 B7⟩
    go_wp2_with fail
    go_ret
    exact ⟨rfl, by rw [HG.out]; exact HF.out⟩
  · have hsp : sp = s := by rw [HZ.out, if_neg hs]
    subst hsp
    have hne := empty_no hs
    clear HZ hs
    have c4 := (X.out w1 (Below.refl _ _)).2.2.2.2.1
    go_enter Tryd.func23, Tryd.ntmps23
    go_upto_region 4 with fail
    rw [← hw1]
    clear hw1 c4
    generalize hg : w.heap.size = g at *
    have HG := Hd.mk hg
    clear hg
    have B3 : Below w1.heap.size w1 w1.drew := (Below.refl _ _).drew
    refine AnyG.start (T := fun W => Below w1.heap.size w1 W) (U := fun _ => True) (j0 := 100) (by kernel_rfl) ?_
    generalize w1.drew = w3 at *
    refine .tq 0 8 B3 ?_; simp only [tkA, tkB, tkC]
    refine .tq 1 9 B3 ?_ (hy := fun w hSw => by obtain ⟨s0, s1, s2, s3, s4, s5⟩ := X.out w hSw; go_simp; rfl); simp only [tkA, tkB, tkC]
    refine .tq 2 10 B3 ?_; simp only [tkA, tkB, tkC]
    refine .tq 3 11 B3 ?_ (hy := fun w hSw => by obtain ⟨s0, s1, s2, s3, s4, s5⟩ := X.out w hSw; go_simp; rfl); simp only [tkA, tkB, tkC]
    refine .tq 5 13 B3 ?_; simp only [tkA, tkB, tkC]
    refine .tq 6 14 B3 ?_ (hy := fun w hSw => by obtain ⟨s0, s1, s2, s3, s4, s5⟩ := X.out w hSw; go_simp; rfl); simp only [tkA, tkB, tkC]
    refine .tq 7 15 B3 ?_; simp only [tkA, tkB, tkC]
    refine .tq 8 16 B3 ?_ (hy := fun w hSw => by obtain ⟨s0, s1, s2, s3, s4, s5⟩ := X.out w hSw; go_simp; rfl); simp only [tkA, tkB, tkC]
    refine .tq 9 17 B3 ?_; simp only [tkA, tkB, tkC]
    refine .tq 10 18 B3 ?_; simp only [tkA, tkB, tkC]
    refine .tq 11 19 B3 ?_ (hy := fun w hSw => by obtain ⟨s0, s1, s2, s3, s4, s5⟩ := X.out w hSw; go_simp; rfl); simp only [tkA, tkB, tkC]
    refine AnyG.ready (rs := [4]) (by kernel_rfl) (by simp) ?_
    refine AllG.cons rfl (fun K hK => ?_) AllG.nil
    go_simp
    refine (HJ.out w3 B3).mono ?_
    rintro e w4 ⟨rfl, b4⟩
    have B4 : Below w1.heap.size w1 w4 := B3.trans (b4.mono B3.size)
    refine hK.out _ _ ⟨B4, fun _ => trivial⟩ ?_
    clear hK K b4 B3
    refine AnyG.ready (rs := [12]) (by kernel_rfl) (by simp) ?_
    refine AllG.cons rfl (fun K hK => ?_) AllG.nil
    go_simp
    refine (HD.out w4 B4).mono ?_
    rintro e w5 ⟨rfl, b5⟩
    have B5 : Below w1.heap.size w1 w5 := B4.trans (b5.mono B4.size)
    refine hK.out _ _ ⟨B5, fun _ => trivial⟩ ?_
    clear hK K b5 B4
    refine AnyG.ready (rs := [13]) (by kernel_rfl) (by simp) ?_
    refine AllG.cons rfl (fun K hK => ?_) AllG.nil
    go_simp
    have B6 : Below w1.heap.size w1 (w5.alloc (.cells #[.string u, .string jg, .string v, .string r, .string sp, .string dg] 9)) := B5.trans ((alloc_below _ _).mono B5.size)
    refine hK.out _ _ ⟨B6, fun _ => trivial⟩ ?_
    clear hK K
    refine AnyG.ready (rs := [14]) (by kernel_rfl) (by simp) ?_
    refine AllG.cons rfl (fun K hK => ?_) AllG.nil
    go_simp
    refine (HS.out w5).mono ?_
    rintro e w7 ⟨rfl, b7⟩
    have B7 : Below w1.heap.size w1 w7 := B6.trans (b7.mono (Nat.le_trans B5.size (Nat.le_succ _)))
    refine hK.out _ _ ⟨B7, fun _ => trivial⟩ ?_
    clear hK K b7 B6 B5
    refine .tq 15 2 B7 ?_ ; simp only [tkA, tkB, tkC]
    refine AnyG.done (by kernel_rfl) ?_ _
    have HF : Hd (Below g w w7) := ⟨HB.out w7 B7⟩
    go_wp2_with fail
    go_ret
    exact ⟨rfl, by rw [HG.out]; exact HF.out⟩
end Go.Proofs.YtooaojegdhamjaaDoor
