/-
  What 'strings.TrimLeft' and 'strings.Cut' at a blank, and 'strings.ReplaceAll' of one byte by another, answer. Condition: the text has at most 2^31 bytes.
-/
import Derived.Test.YtooaojegdhamjaaDoorEvL
import Derived.Test.YtooaojegdhamjaaDoorWalkD
import Derived.Lib.ReplaceLaws
import Derived.Lib.SlicesS
import Derived.Deep.LoopGhost
namespace Go.Proofs.YtooaojegdhamjaaDoor
open Go.RowKit Go.Lib Go.Shelf

theorem trim_ok (s : ByteArray) (w : World) :
    Calls Tryd.prog 15 #[.string s, .string ⟨#[32]⟩] w fun e w' => e = .returned (.string (mk (trL s.data.toList))) ∧ w' = w :=
  Any.strings_TrimLeft_one Tryd.laysTrim s 32 (by decide) w

theorem sindex_ok (s : ByteArray) (c : UInt8) (w : World) :
    Calls Tryd.prog 49 #[.string s, .string ⟨#[c]⟩] w fun e w' => e = .returned (.int .i64 (indexByte s.data.toList c)) ∧ w' = w :=
  Any.strings_Index_one (ρ := Tryd.laysReplaceAll_ren) { Tryd.laysReplaceAll with } s c w
theorem lindex_ok (s : ByteArray) (c : UInt8) (w : World) :
    Calls Tryd.prog 43 #[.string s, .string ⟨#[c]⟩] w fun e w' => e = .returned (.int .i64 (indexByte s.data.toList c)) ∧ w' = w :=
  Any.stringslite_Index_one (ρ := Tryd.laysReplaceAll_ren) { Tryd.laysReplaceAll with } s c w
theorem scount_ok (s : ByteArray) (c : UInt8) (w : World) :
    Calls Tryd.prog 47 #[.string s, .string ⟨#[c]⟩] w fun e w' => e = .returned (.int .i64 (s.data.toList.count c : Nat)) ∧ w' = w :=
  Any.strings_Count_one (ρ := Tryd.laysReplaceAll_ren) { Tryd.laysReplaceAll with } s c w

theorem index_hit {l : List UInt8} {c : UInt8} (h : c ∈ l) : ∃ j : Nat, indexByte l c = (j : Int) ∧ j < l.length := by
  induction l with
  | nil => simp at h
  | cons x l ih =>
    unfold indexByte
    by_cases hx : x = c
    · subst hx
      exact ⟨0, by simp, by simp⟩
    · rw [if_neg (by simpa using hx)]
      obtain ⟨j, hj, hl⟩ := ih ((List.mem_cons.1 h).resolve_left fun e => hx e.symm)
      rw [hj, if_neg (by simp)]
      exact ⟨j + 1, by omega, by simpa using hl⟩
theorem index_miss {l : List UInt8} {c : UInt8} (h : c ∉ l) : indexByte l c = -1 := by
  induction l with
  | nil => rfl
  | cons x l ih =>
    unfold indexByte
    rw [if_neg (by simp; exact fun e => h (by rw [e]; exact List.mem_cons_self ..)), ih fun e => h (List.mem_cons_of_mem _ e)]
    rfl

/-- What stands ahead of the first byte c, and behind it. -/
def cutA (c : UInt8) (l : List UInt8) : List UInt8 := l.takeWhile (· != c)
def cutZ (c : UInt8) (l : List UInt8) : List UInt8 := (l.dropWhile (· != c)).drop 1
theorem lcut_ok (s : ByteArray) (c : UInt8) (w : World) (hs : s.size < 4294967281) :
    Calls Tryd.prog 26 #[.string s, .string ⟨#[c]⟩] w fun e w' => ∃ b, e = .returned (.tuple #[.string (mk (cutA c s.data.toList)), .string (mk (cutZ c s.data.toList)), .bool b]) ∧ Below w.heap.size w w' := by
  have I := lindex_ok s c w
  by_cases hc : c ∈ s.data.toList
  · obtain ⟨j, hj, hl⟩ := index_hit hc
    rw [hj] at I
    rw [size_list] at hl
    obtain ⟨e1, e2⟩ := hit_parts hj
    have t1 := (tw_at (r := s.data.toList.drop (j + 1)) e2).1
    have t2 := (tw_at (r := s.data.toList.drop (j + 1)) e2).2
    rw [← e1] at t1 t2
    have x1 : mk (cutA c s.data.toList) = s.extract 0 j := by unfold cutA; rw [t1, ext_list, List.drop_zero, Nat.sub_zero]
    have x2 : mk (cutZ c s.data.toList) = s.extract (j + 1) s.size := by
      unfold cutZ
      rw [t2, ext_list, List.drop_succ_cons, List.drop_zero, List.take_of_length_le]
      rw [List.length_drop, size_list]
      omega
    rw [x1, x2]
    have hw : IntKind.i64.wrap ((j : Int) + 1) = ((j + 1 : Nat) : Int) := by rw [IntKind.wrap_i64]; omega
    have o1 : (0 : Int) ≤ ((j + 1 : Nat) : Int) := by omega
    have o2 : ((j + 1 : Nat) : Int) ≤ (s.size : Int) := by omega
    have o3 : (j : Int) ≤ (s.size : Int) := by omega
    have o4 : (0 : Int) ≤ (j : Int) := by omega
    have HS : Hd (j < s.size) := ⟨hl⟩
    clear e1 e2 t1 t2 x1 x2 hj hc
    go_enter Tryd.func26, Tryd.ntmps26
    go_wp2_with (go_at_call 43; refine I.mono ?_; rintro e w' ⟨rfl, hw⟩; obtain rfl := hw.symm)
    go_quiet (fail)
    go_wp2
    go_ret3
    exact ⟨true, rfl, ⟨rfl, rfl, rfl, Nat.le_refl _, fun _ _ => rfl⟩⟩
  · rw [index_miss hc] at I
    have x1 : mk (cutA c s.data.toList) = s := by unfold cutA; rw [(tw_all hc).1, mk_of]
    have x2 : mk (cutZ c s.data.toList) = ⟨#[]⟩ := by unfold cutZ; rw [(tw_all hc).2]; rfl
    rw [x1, x2]
    clear hc x1 x2
    go_enter Tryd.func26, Tryd.ntmps26
    go_wp2_with (go_at_call 43; refine I.mono ?_; rintro e w' ⟨rfl, hw⟩; obtain rfl := hw.symm)
    go_ret3
    exact ⟨false, rfl, Below.refl _ _⟩
theorem cut_ok (s : ByteArray) (c : UInt8) (w : World) (hs : s.size < 4294967281) :
    Calls Tryd.prog 14 #[.string s, .string ⟨#[c]⟩] w fun e w' => ∃ b, e = .returned (.tuple #[.string (mk (cutA c s.data.toList)), .string (mk (cutZ c s.data.toList)), .bool b]) ∧ Below w.heap.size w w' := by
  have C := lcut_ok s c w hs
  generalize mk (cutA c s.data.toList) = x at *
  generalize mk (cutZ c s.data.toList) = y at *
  go_enter Tryd.func14, Tryd.ntmps14
  go_wp2_with (go_at_call 26; refine C.mono ?_; rintro e w' ⟨b, rfl, hb⟩)
  go_ret3
  exact ⟨b, rfl, hb⟩
theorem xRep : Builder.Extra Tryd.prog Tryd.laysReplaceAll_ren := { sizeBuilder := by kernel_rfl, liesBuilder := by kernel_rfl, t5 := Tryd.underlying5, a5 := Tryd.isAgg5, z5 := Tryd.sizeOf5, v5 := Tryd.zeroValue5, infoByte := by kernel_rfl, cellsByte := by kernel_rfl, sizeByte := by kernel_rfl, neB5 := by decide }
/-- A builder at block b that holds these bytes. -/
def Bd (B b : Nat) (l : List UInt8) (w : World) : Prop := IsBuilder 80 5 B b (byteCells l) w
theorem grow_ok (B b n : Nat) (w : World) (hB : B ≤ b) (hbk : w.heap[b]? = some (.cells #[.pointer none, .slice none 0 0] 80 (0, 0))) (hBw : B ≤ w.heap.size) (hn : n ≤ 281474976710656) :
    Calls Tryd.prog 48 #[.pointer (some ⟨b, 0, none⟩), .int .i64 n] w fun e w' => e = .returned (.tuple #[]) ∧ Bd B b [] w' ∧ Below B w w' :=
  (Any.Builder_Grow_fresh (ρ := Tryd.laysReplaceAll_ren) { Tryd.laysReplaceAll with } xRep B b n w hB hbk hBw hn).mono fun _ _ h => ⟨h.1, .inr h.2.1, h.2.2⟩
theorem puts_ok (B b : Nat) (l : List UInt8) (s : ByteArray) (w : World) (h : Bd B b l w) (hlen : l.length + s.size ≤ 140737488355328) (hBw : B ≤ w.heap.size) :
    Calls Tryd.prog 50 #[.pointer (some ⟨b, 0, none⟩), .string s] w fun e w' => ∃ v, e = .returned v ∧ Bd B b (l ++ s.data.toList) w' ∧ Below B w w' :=
  (Any.Builder_WriteString (ρ := Tryd.laysReplaceAll_ren) { Tryd.laysReplaceAll with } xRep B b (byteCells l) s w h (by rw [byteCells_length]; exact hlen) hBw).mono fun _ _ h => ⟨_, h.1, .inr (by rw [byteCells_append, ← strCells_eq]; exact h.2.1), h.2.2⟩
theorem said_ok (B b : Nat) (l : List UInt8) (w : World) (h : Bd B b l w) (hBw : B ≤ w.heap.size) :
    Calls Tryd.prog 51 #[.pointer (some ⟨b, 0, none⟩)] w fun e w' => e = .returned (.string (mk l)) ∧ Below B w w' :=
  Any.Builder_String_any (ρ := Tryd.laysReplaceAll_ren) { Tryd.laysReplaceAll with } xRep B b l w h hBw

/-- What is left of a text from place k on, when its first byte c stands at place j. -/
theorem left_hit {s : ByteArray} {c d : UInt8} {k j : Nat} (hk : k ≤ s.size) (h : indexByte (s.data.toList.drop k) c = (j : Int)) (hj : j < (s.data.toList.drop k).length) :
    k + j + 1 ≤ s.size ∧ mpL c d (s.data.toList.drop k) = (s.extract k (k + j)).data.toList ++ d :: mpL c d (s.data.toList.drop (k + j + 1)) ∧ (s.data.toList.drop k).count c = (s.data.toList.drop (k + j + 1)).count c + 1 ∧ (s.extract k (k + j)).size = j := by
  obtain ⟨e1, e2⟩ := hit_parts h
  rw [List.length_drop, size_list] at hj
  have ex : (s.extract k (k + j)).data.toList = (s.data.toList.drop k).take j := by rw [ext_list, mk_list, Nat.add_sub_cancel_left]
  have ed : (s.data.toList.drop k).drop (j + 1) = s.data.toList.drop (k + j + 1) := by rw [List.drop_drop]; rfl
  rw [ed] at e1
  refine ⟨by omega, ?_, ?_, ?_⟩
  · conv => lhs; rw [e1]
    rw [mpL_at e2, ex]
  · conv => lhs; rw [e1]
    rw [List.count_append, List.count_cons_self, List.count_eq_zero.2 e2]
    omega
  · rw [ByteArray.size_extract]; omega

set_option maxHeartbeats 4000000 in
/-- Each byte a of a text replaced by b, when there is one. -/
theorem repl_some (o n : ByteArray) (a b : UInt8) (hab : a ≠ b) (ho : o = ⟨#[a]⟩) (hn : n = ⟨#[b]⟩) (s : ByteArray) (w : World) (hs : s.size < 4294967281) (K : Nat) (hK : s.data.toList.count a = K) (h1 : 1 ≤ K) :
    Calls Tryd.prog 31 #[.string s, .string o, .string n, .int .i64 (-1)] w fun e w' => e = .returned (.string (mk (mpL a b s.data.toList))) ∧ Below w.heap.size w w' := by
  have hC := scount_ok s a w
  have hI : Hd (∀ (x : ByteArray) (v : World), Calls Tryd.prog 49 #[.string x, .string o] v fun e w' => e = .returned (.int .i64 (indexByte x.data.toList a)) ∧ w' = v) := ⟨fun x v => by rw [ho]; exact sindex_ok x a v⟩
  rw [hK, ← ho] at hC
  have hKs : K ≤ s.size := by rw [← hK]; exact count_le s a
  have hbeq : (o.toList == n.toList) = false := str_ne (fun e => hab (by rw [ho, hn] at e; simpa using e))
  have o1 : o.size = 1 := by rw [ho]; rfl
  have n1 : n.size = 1 := by rw [hn]; rfl
  have nl : Hd (n.data.toList = [b]) := ⟨by rw [hn]⟩
  have hod : decide (0 < o.size) = true := decide_eq_true (by omega)
  have hK0 : ((K : Int) == 0) = false := by simp; omega
  have HW0 : Hd (0 ≤ s.size) := ⟨Nat.zero_le _⟩
  have hga : IntKind.i64.wrap ((s.size : Int) + IntKind.i64.wrap ((K : Int) * IntKind.i64.wrap ((n.size : Int) - (o.size : Int)))) = ((s.size : Nat) : Int) := by
    rw [o1, n1]
    simp only [IntKind.wrap_i64]
    simp
    omega
  have hK' : Hd (s.data.toList.count a = K) := ⟨hK⟩
  clear hK ho hn hab
  have hsz : s.size < 4294967281 := hs
  go_enter Tryd.func31, Tryd.ntmps31
  go_wp2_with (first | (go_at_call 47; refine hC.mono ?_; rintro e w' ⟨rfl, hw⟩; obtain rfl := hw.symm))
  refine (grow_ok w.heap.size w.heap.size s.size _ (Nat.le_refl _) (heap_alloc_new w _) (by simp) (by omega)).mono ?_
  rintro e w1 ⟨rfl, hb0, hb1⟩
  have H1 : Hd (Bd w.heap.size w.heap.size [] w1) := ⟨hb0⟩
  have B1 : Hd (Below w.heap.size w w1) := ⟨((Below.refl w.heap.size w).alloc (Nat.le_refl _) _).trans hb1⟩
  clear hb0 hb1 hga hC
  go_wp2_with fail
  go_loopg [11, 53] K (fun g s11 s53 wx => ∃ (i k : Nat), s53 = .int .i64 i ∧ s11 = .int .i64 k ∧ i + g = K ∧ k ≤ s.size ∧
    Hd (∃ acc, Bd w.heap.size w.heap.size acc wx ∧ acc ++ mpL a b (s.data.toList.drop k) = mpL a b s.data.toList ∧ acc.length = k) ∧ Hd (Below w.heap.size w wx) ∧ Hd ((s.data.toList.drop k).count a = g))
  case atStart => exact ⟨0, 0, rfl, rfl, by omega, Nat.zero_le _, ⟨[], H1.out, rfl, rfl⟩, B1, ⟨hK'.out⟩⟩
  case round =>
    obtain ⟨i, k, rfl, rfl, hig, hk, ⟨acc, HB, HR, HL⟩, HW, HG⟩ := hrel
    have hBw : w.heap.size ≤ wr.heap.size := HW.out.size
    have c1 : (0 : Int) ≤ (k : Int) := by omega
    have c2 : (k : Int) ≤ (s.size : Int) := by omega
    have hlen : (s.data.toList.drop k).length = s.size - k := by rw [List.length_drop, size_list]
    have hlen' := Hd.mk hlen
    have HB' := Hd.mk HB
    have HR' := Hd.mk HR
    have HL' := Hd.mk HL
    clear hlen HB HR HL
    have ex : (s.extract k s.size).data.toList = s.data.toList.drop k := by rw [ext_list, mk_list, List.take_of_length_le (by rw [hlen'.out]; omega)]
    have EX := Hd.mk ex
    clear ex
    cases gk with
    | zero =>
      have hiK : ¬ ((i : Int) < (K : Int)) := by omega
      go_wp2_with fail
      refine (puts_ok w.heap.size w.heap.size acc _ wr HB'.out (by rw [HL'.out, ByteArray.size_extract]; omega) hBw).mono ?_
      rintro e w3 ⟨v, rfl, h3, hb3⟩
      rw [EX.out] at h3
      have hno : mpL a b (s.data.toList.drop k) = s.data.toList.drop k := mpL_id _ (List.count_eq_zero.1 HG.out)
      have hfin := HR'.out
      rw [hno] at hfin
      rw [hfin] at h3
      have H3 := Hd.mk h3
      have B3 := Hd.mk (HW.out.trans hb3)
      have hBw3 : w.heap.size ≤ w3.heap.size := B3.out.size
      clear h3 hb3 hfin hno
      go_wp2_with fail
      refine (said_ok w.heap.size w.heap.size _ w3 H3.out hBw3).mono ?_
      rintro e w5 ⟨rfl, hb5⟩
      have B5 := Hd.mk (B3.out.trans hb5)
      clear hb5
      go_wp2
      go_ret
      exact ⟨rfl, B5.out⟩
    | succ g =>
      have hiK : (i : Int) < (K : Int) := by omega
      obtain ⟨j, hj, hjl⟩ := index_hit (l := s.data.toList.drop k) (c := a) (List.count_pos_iff.1 (by rw [HG.out]; omega))
      obtain ⟨q1, q2, q3, q4⟩ := left_hit (d := b) hk hj hjl
      have Q2 := Hd.mk q2
      have Q3 := Hd.mk q3
      have Q4 := Hd.mk q4
      have HJ : Hd (indexByte (s.extract k s.size).data.toList a = (j : Int)) := ⟨by rw [EX.out]; exact hj⟩
      have c3 : (k : Int) ≤ (k : Int) + (j : Int) := by omega
      have c4 : (k : Int) + (j : Int) ≤ (s.size : Int) := by omega
      clear q2 q3 q4 hj hjl
      go_wp2_with (first | (go_at_call 49; refine (hI.out _ _).mono ?_; rintro e w' ⟨rfl, hw⟩; obtain rfl := hw.symm; rw [HJ.out]))
      refine (puts_ok w.heap.size w.heap.size acc (s.extract k (k + j)) wr HB'.out (by rw [HL'.out, Q4.out]; omega) hBw).mono ?_
      rintro e w3 ⟨v, rfl, h3, hb3⟩
      have hBw3 : w.heap.size ≤ w3.heap.size := Nat.le_trans hBw hb3.size
      have H3 := Hd.mk h3
      have B3 := Hd.mk hb3
      clear h3 hb3
      go_wp2_with fail
      refine (puts_ok w.heap.size w.heap.size _ n w3 H3.out (by rw [List.length_append, HL'.out, size_list, Q4.out]; omega) hBw3).mono ?_
      rintro e w4 ⟨v2, rfl, h4, hb4⟩
      have H4 := Hd.mk h4
      have B4 := Hd.mk ((HW.out.trans B3.out).trans hb4)
      clear h4 hb4
      go_wp2
      go_roundg g
      case measure => omega
      case rel =>
        refine ⟨i + 1, k + j + 1, by first | rfl | (simp; unfold wrap64; omega), by first | rfl | (simp; unfold wrap64; omega), by omega, by omega, ⟨_, H4.out, ?_, ?_⟩, B4, ⟨by have := Q3.out; have := HG.out; omega⟩⟩
        · rw [nl.out]
          have := HR'.out
          rw [Q2.out] at this
          rw [← this]
          simp only [List.append_assoc, List.singleton_append]
        · rw [nl.out, List.length_append, List.length_append, HL'.out, size_list, Q4.out]
          rfl
theorem repl_ok (a b : UInt8) (hab : a ≠ b) (s : ByteArray) (w : World) (hs : s.size < 4294967281) :
    Calls Tryd.prog 31 #[.string s, .string ⟨#[a]⟩, .string ⟨#[b]⟩, .int .i64 (-1)] w fun e w' => e = .returned (.string (mk (mpL a b s.data.toList))) ∧ Below w.heap.size w w' := by
  obtain ⟨K, hK⟩ : ∃ K, s.data.toList.count a = K := ⟨_, rfl⟩
  by_cases h1 : 1 ≤ K
  · exact repl_some _ _ a b hab rfl rfl s w hs K hK h1
  · obtain rfl : K = 0 := by omega
    have hC := scount_ok s a w
    rw [hK] at hC
    rw [mpL_id _ (List.count_eq_zero.1 hK), mk_of]
    obtain ⟨o, ho⟩ : ∃ o : ByteArray, o = ⟨#[a]⟩ := ⟨_, rfl⟩
    obtain ⟨n, hn⟩ : ∃ n : ByteArray, n = ⟨#[b]⟩ := ⟨_, rfl⟩
    have hbeq : (o.toList == n.toList) = false := str_ne (fun e => hab (by rw [ho, hn] at e; simpa using e))
    rw [← ho] at hC ⊢
    rw [← hn]
    clear hK ho hn hab h1
    go_enter Tryd.func31, Tryd.ntmps31
    go_wp2_with (first | (go_at_call 47; refine hC.mono ?_; rintro e w' ⟨rfl, hw⟩; obtain rfl := hw.symm))
    go_ret
    exact ⟨rfl, Below.refl _ _⟩
theorem replAll_ok (a b : UInt8) (hab : a ≠ b) (s : ByteArray) (w : World) (hs : s.size < 4294967281) :
    Calls Tryd.prog 16 #[.string s, .string ⟨#[a]⟩, .string ⟨#[b]⟩] w fun e w' => e = .returned (.string (mk (mpL a b s.data.toList))) ∧ Below w.heap.size w w' := by
  have C := repl_ok a b hab s w hs
  generalize mk (mpL a b s.data.toList) = x at *
  go_enter Tryd.func16, Tryd.ntmps16
  go_wp2_with (go_at_call 31; refine C.mono ?_; rintro e w' ⟨rfl, hb⟩)
  go_ret
  exact ⟨rfl, hb⟩
end Go.Proofs.YtooaojegdhamjaaDoor
