/-
  What 'Hex' of the program answers: sixteen digits. No condition.
-/
import Derived.Test.YtaedgkaldafbbabDoorWalkA
import Derived.Test.YtaedgkaldafbbabDoorMathA
import Derived.Laws.MakeOwn
import Derived.Laws.OwnMore
namespace Go.Proofs.YtaedgkaldafbbabDoor
open Go.RowKit Go.Lib

/-- A digit of sixteen. -/
def hexC (d : Nat) : Nat := if d < 10 then 48 + d else 87 + d
theorem hexC_lt {d : Nat} (h : d < 16) : hexC d < 256 := by unfold hexC; split <;> omega
/-- The digit at place j of sixteen places, the highest first. -/
def hexAt (h j : Nat) : Nat := hexC (h / 16 ^ (15 - j) % 16)
def hexL (h : Nat) : List UInt8 := (List.range 16).map fun j => UInt8.ofNat (hexAt h j)
def hexB (h : Nat) : ByteArray := mk (hexL h)

theorem info5 : (Tryd.prog.info? 5).map (fun i => (i.zero, i.size, i.bytes)) = some (some (.int .u8 0), 1, 1) := by kernel_rfl

def OwnB (w : World) (b n : Nat) (f : Nat → Int) : Prop :=
  b < w.heap.size ∧ ∀ k, k < n → w.cell? ⟨b, k, none⟩ = some (.int .u8 (f k)) ∧ w.frozen? ⟨b, k, none⟩ = false

theorem hexStr (d : Nat) (h : d < 16) (h' : d < (⟨#[48, 49, 50, 51, 52, 53, 54, 55, 56, 57, 97, 98, 99, 100, 101, 102]⟩ : ByteArray).size) : ((⟨#[48, 49, 50, 51, 52, 53, 54, 55, 56, 57, 97, 98, 99, 100, 101, 102]⟩ : ByteArray)[d]).toNat = hexC d := by
  rcases (by omega : d = 0 ∨ d = 1 ∨ d = 2 ∨ d = 3 ∨ d = 4 ∨ d = 5 ∨ d = 6 ∨ d = 7 ∨ d = 8 ∨ d = 9 ∨ d = 10 ∨ d = 11 ∨ d = 12 ∨ d = 13 ∨ d = 14 ∨ d = 15) with rfl | rfl | rfl | rfl | rfl | rfl | rfl | rfl | rfl | rfl | rfl | rfl | rfl | rfl | rfl | rfl <;> rfl

/-- The places from q on are done. -/
def from_ (f : Nat → Int) (q : Nat) : Nat → Int := fun j => if j < q then 0 else f j
theorem from_step (f : Nat → Int) (q : Nat) : (fun j => if j = q then f q else from_ f (q + 1) j) = from_ f q := by
  funext j
  unfold from_
  by_cases c : j = q
  · subst c; simp
  · rw [if_neg c]
    by_cases d : j < q
    · rw [if_pos d, if_pos (by omega)]
    · rw [if_neg d, if_neg (by omega)]

theorem OwnB.store {w : World} {b n : Nat} {f : Nat → Int} (h : OwnB w b n f) (i : Nat) (x : Int) (hi : i < n) : OwnB (w.setCell ⟨b, i, none⟩ (.int .u8 x)) b n (fun j => if j = i then x else f j) := by
  refine ⟨by simpa using h.1, fun k hk => ⟨?_, by simpa using (h.2 k hk).2⟩⟩
  by_cases c : k = i
  · subst c
    show _ = some (Value.int .u8 (if k = k then x else f k))
    rw [if_pos rfl]
    exact World.cell?_setCell_same _ _ _ (h.2 k hk).1
  · show _ = some (Value.int .u8 (if k = i then x else f k))
    rw [if_neg c, World.cell?_setCell_other]
    · exact (h.2 k hk).1
    · intro e; exact c (Addr.mk.inj e).2.1.symm
theorem OwnB.congr {w : World} {b n : Nat} {f g : Nat → Int} (h : OwnB w b n f) (e : ∀ k, k < n → f k = g k) : OwnB w b n g :=
  ⟨h.1, fun k hk => by rw [← e k hk]; exact h.2 k hk⟩
theorem OwnB.made {w : World} {base n g : Nat} (h : w.ownsRow base 5 1 (.slice (some ⟨g, 0, none⟩) n n) n (madeCells (Value.cells (.int .u8 0)) (n * 1)).toList) : OwnB w g n (fun _ => 0) := by
  refine ⟨(h.lt g rfl).2, fun k hk => ⟨?_, h.frozenAt k⟩⟩
  rw [h.cellAt k (by omega)]
  simp [Value.cells, toList_madeCells_one, hk]
theorem add_at (g j : Nat) : (⟨g, 0, none⟩ : Addr).add j = ⟨g, j, none⟩ := by unfold Addr.add; split <;> simp_all

def hexI (h : Nat) : Nat → Int := fun j => (hexAt h j : Int)
theorem OwnB.hex {w : World} {g h : Nat} (o : OwnB w g 16 (hexI h)) : (convert 38 9 (.slice (some ⟨g, 0, none⟩) 16 16)).run Tryd.prog w = .ok (.string (hexB h)) w := by
  have e := run_convert_bytes_back w 38 9 5 ⟨g, 0, none⟩ 16 (hexL h) Tryd.underlying38 Tryd.underlying5 Tryd.underlying9 (fun j hj => by
    have hj' : j < 16 := by simpa [hexL] using hj
    have hlt : hexAt h j < 256 := hexC_lt (Nat.mod_lt _ (by decide))
    rw [add_at, (o.2 j hj').1]
    simp [hexL, hexI]
    omega)
  have hl : (hexL h).length = 16 := by simp [hexL]
  rw [hl] at e
  exact e

theorem hex_step (h q : Nat) (hq : q < 16) : h / 16 ^ (16 - (q + 1)) / 16 = h / 16 ^ (16 - q) := by
  rw [Nat.div_div_eq_div_mul, ← Nat.pow_succ, show (16 - (q + 1)).succ = 16 - q by omega]

theorem hex_ok (h : Nat) (hh : h < 18446744073709551616) (w : World) :
    Calls Tryd.prog 11 #[.int .u64 h] w fun e w' => e = .returned (.string (hexB h)) ∧ Below w.heap.size w w' := by
  obtain ⟨i0, hi, hz0, hz1, hz2⟩ := info_parts info5
  go_enter Tryd.func11, Tryd.ntmps11
  go_wp2_with (at_make; refine wpList_make_full _ rfl (.const (.int .i64 16)) (.const (.int .i64 16)) 38 rfl w.heap.size 5 i0 (.int .u8 0) 1 Tryd.underlying38 hi hz0 hz1 _ _ _ _ 16 rfl rfl rfl rfl (by rw [hz2]; omega) (by unfold maxLen; omega) (Nat.le_refl _) ?_; intro w1 hown1 hgrow1)
  have o1 := OwnB.made hown1
  have b1 : Below w.heap.size w w1 := (Below.refl _ _).grown hgrow1 (Nat.le_refl _) (by simp)
  clear hown1 hgrow1
  go_loopw [0, 4] (fun x i wr => ∃ q v : Nat, q ≤ 16 ∧ i = .int .i64 ((q : Int) - 1) ∧ x = .int .u64 v ∧ Hd (v = h / 16 ^ (16 - q)) ∧ v < 18446744073709551616 ∧ OwnB wr w.heap.size 16 (from_ (hexI h) q) ∧ Below w.heap.size w wr) (fun _ i _ => (intOf i + 1).toNat)
  case atStart => exact ⟨16, h, Nat.le_refl _, rfl, rfl, ⟨by rw [Nat.sub_self, Nat.pow_zero, Nat.div_one]⟩, hh, o1.congr fun k hk => by simp [from_, hk], b1⟩
  case round =>
    obtain ⟨q, v, hq, rfl, rfl, hv, hvl, p1, p3⟩ := hrel
    by_cases hz : q = 0
    · subst hz
      have p1' : OwnB wr w.heap.size 16 (hexI h) := p1.congr fun k hk => by simp [from_]
      have CV := p1'.hex
      have P3 : Hd (Below w.heap.size w wr) := ⟨p3⟩
      clear p1 p1' o1 b1 hv p3
      go_wp2
      go_ret
      exact ⟨rfl, P3.out⟩
    · obtain ⟨p, rfl⟩ : ∃ p, q = p + 1 := ⟨q - 1, by omega⟩
      obtain ⟨c1, f1⟩ := p1.2 p (by omega)
      have e0 : ((p + 1 : Nat) : Int) - 1 = (p : Int) := by omega
      have e1 : (v : Int).tmod 16 = ((v % 16 : Nat) : Int) := (Int.ofNat_tmod _ _).symm
      have e2 : (v : Int).tdiv 16 = ((v / 16 : Nat) : Int) := (Int.ofNat_tdiv _ _).symm
      have ht : v % 16 < 16 := Nat.mod_lt _ (by decide)
      have hx := fun h' => hexStr (v % 16) ht h'
      have r1 := p1.store p (hexC (v % 16) : Nat) (by omega)
      have e3 : ((hexC (v % 16) : Nat) : Int) = hexI h p := by
        unfold hexI hexAt
        rw [hv.out, show 16 - (p + 1) = 15 - p by omega]
      have r1' : OwnB (wr.setCell ⟨w.heap.size, p, none⟩ (.int .u8 ((hexC (v % 16) : Nat) : Int))) w.heap.size 16 (from_ (hexI h) p) := by
        refine r1.congr fun k _ => ?_
        rw [e3]
        exact congrFun (from_step (hexI h) p) k
      have r3 := p3.setCell (p := ⟨w.heap.size, p, none⟩) (Nat.le_refl _) (.int .u8 ((hexC (v % 16) : Nat) : Int))
      have hv' : v / 16 = h / 16 ^ (16 - p) := by rw [hv.out]; exact hex_step h p (by omega)
      have R : Hd (_ ∧ _ ∧ _) := ⟨r1', r3, hv'⟩
      have hc : hexC (v % 16) < 256 := hexC_lt ht
      have hv2 : v / 16 < 18446744073709551616 := by omega
      clear r1 r1' r3 p1 p3 o1 b1 hv hv' e3
      rw [e0]
      generalize v % 16 = t at *
      generalize v / 16 = u at *
      generalize hexC t = y at *
      go_wp2
      go_roundw
      case rel => exact ⟨p, u, by omega, rfl, rfl, ⟨R.out.2.2⟩, hv2, R.out.1, R.out.2.1⟩
      case measure => simp [intOf]

end Go.Proofs.YtaedgkaldafbbabDoor
