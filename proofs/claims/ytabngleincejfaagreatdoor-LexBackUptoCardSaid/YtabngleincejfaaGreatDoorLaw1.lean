/- The law's alive: what Lex tells of the document's two examples. -/
import Derived.Test.YtabngleincejfaaGreatDoorJoin
import Derived.Handy
import Derived.Deep.AppendLies
import Derived.Deep.QuietTactic
import Derived.BigQuiet
namespace Go.Proofs.YtabngleincejfaaGreatDoor
open Go.ChangeShapes Go.WideShapes Go.ChangeAt Go.RowKit

def keyL (l : List UInt8) : Bool :=
  l == [97, 110, 100] || l == [97, 115] || l == [99, 108, 97, 115, 115] || l == [101, 108, 115, 101] || l == [101, 110, 100] || l == [102, 97, 108, 115, 101] || l == [102, 117, 110] || l == [105, 102] || l == [105, 110] || l == [105, 110, 104, 101, 114, 105, 116] ||
  l == [108, 101, 116] || l == [109, 101, 116, 104, 111, 100] || l == [110, 101, 119] || l == [111, 98, 106, 101, 99, 116] || l == [114, 101, 99] || l == [116, 104, 101, 110] || l == [116, 114, 117, 101] || l == [118, 97, 108] || l == [118, 105, 114, 116, 117, 97, 108]
def symL (l : List UInt8) : Bool :=
  l == [45, 62] || l == [60, 45] || l == [58, 62] || l == [46, 46] || l == [123, 60] || l == [62, 125] || l == [40] || l == [41] || l == [58] || l == [59] || l == [61] || l == [60] || l == [62] || l == [43] || l == [45] || l == [42] || l == [47] || l == [44] || l == [35]
theorem keyB_list (s : ByteArray) : keyB s = keyL s.data.toList := by unfold keyB keyL; rw [Lib.toList_data]
theorem symQ_list (l : List UInt8) : symQ l = symL l := by unfold symQ symB symL; rw [Lib.toList_data, bytesOf_list]

theorem tok_word {c : UInt8} {r : List UInt8} {n : Nat} (hs : sortF (c.toNat : Int) = 1) (hw : wordLen (c :: r) = n) (hn : n ≤ 100) : tokL (c :: r) = some ⟨if keyL ((c :: r).take n) = true then 2 else 1, 0, (c :: r).take n, n⟩ := by
  rw [tokL, if_pos hs]
  unfold wordTok kindOf
  rw [hw, if_pos hn, keyB_list, bytesOf_list]
theorem tok_sym {c : UInt8} {r : List UInt8} {n : Nat} (hs : sortF (c.toNat : Int) = 0) (hw : symLen (c :: r) = n) (hn : 0 < n) : tokL (c :: r) = some ⟨6, 0, (c :: r).take n, n⟩ := by
  rw [tokL, if_neg (by omega), if_neg (by omega), if_neg (by omega), if_neg (by omega)]
  unfold symTok
  rw [hw, if_pos hn]
theorem tok_text {c : UInt8} {r : List UInt8} {p : List UInt8 × Nat} (hs : sortF (c.toNat : Int) = 3) (hd : decL r = some p) : tokL (c :: r) = some ⟨4, 0, p.1, 1 + p.2⟩ := by
  rw [tokL, if_neg (by omega), if_neg (by omega), if_neg (by omega), if_pos hs]
  unfold textTok
  rw [hd]; rfl
theorem sl_none {c : UInt8} {r : List UInt8} (h2 : symL ((c :: r).take 2) = false) (h1 : symL ((c :: r).take 1) = true) : symLen (c :: r) = 1 := by
  unfold symLen
  rw [symQ_list, symQ_list, if_neg (fun x => by rw [h2] at x; cases x.2), if_pos h1]
theorem lex_step {f p k : Nat} {l : List UInt8} {x : Tok} {r : List Tk} (hk : skipL (l.length + 1) l = some k) (hl : k < l.length) (ht : tokL (l.drop k) = some x) (hr : lexL f (p + k + x.len) (l.drop (k + x.len)) = some r) :
    lexL (f + 1) p l = some (⟨x.kind, ((p + k : Nat) : Int), x.n, bytesOf x.t⟩ :: r) := by
  rw [lexL, hk]
  simp only
  rw [if_neg (by omega), ht]
  simp only
  rw [hr]; rfl
theorem lex_stop {f p : Nat} {l : List UInt8} (hk : skipL (l.length + 1) l = some l.length) : lexL (f + 1) p l = some [] := by
  rw [lexL, hk]
  simp only
  rw [if_pos (Nat.le_refl _)]

theorem ex_one : toksOf ⟨#[120, 35, 109]⟩ = some [⟨1, 0, 0, ⟨#[120]⟩⟩, ⟨6, 1, 0, ⟨#[35]⟩⟩, ⟨1, 2, 0, ⟨#[109]⟩⟩] := by
  have e3 := lex_step (f := 1) (p := 2) (l := [109]) (k := 0) (by decide) (by decide) (tok_word (n := 1) (by decide) (by decide) (by decide)) (lex_stop (f := 0) (p := 3) (l := []) (by decide))
  have e2 := lex_step (f := 2) (p := 1) (l := [35, 109]) (k := 0) (by decide) (by decide) (tok_sym (n := 1) (by decide) (sl_none (by decide) (by decide)) (by decide)) e3
  exact lex_step (f := 3) (p := 0) (l := [120, 35, 109]) (k := 0) (by decide) (by decide) (tok_word (n := 1) (by decide) (by decide) (by decide)) e2
theorem ex_two : toksOf ⟨#[34, 97, 92, 110, 98, 34]⟩ = some [⟨4, 0, 0, ⟨#[97, 10, 98]⟩⟩] := by
  exact lex_step (f := 6) (p := 0) (l := [34, 97, 92, 110, 98, 34]) (k := 0) (by decide) (by decide) (tok_text (p := ([97, 10, 98], 5)) (by decide) (by decide)) (lex_stop (f := 5) (p := 6) (l := []) (by decide))

theorem lex_good (E : Errs) (s : ByteArray) (l : List Tk) (w : World) (hE : EnvL E w) (hs : s.size ≤ 65536) (h : toksOf s = some l) :
    Calls Tryz.prog 6 #[.string s] w (Lexed w (l ++ [endTk s])) := by
  have := lex_all E s w hE hs
  unfold LexEnds at this
  rwa [h] at this

set_option maxRecDepth 100000 in
theorem alive_is (E : Errs) (w : World) (hE : EnvL E w) : Calls Tryz.prog 4 #[] w fun e w' => e = .returned (.bool true) ∧ Below w.heap.size w w' := by
  have c1 : Calls Tryz.prog 6 #[.string ⟨#[120, 35, 109]⟩] w (Lexed w [⟨1, 0, 0, ⟨#[120]⟩⟩, ⟨6, 1, 0, ⟨#[35]⟩⟩, ⟨1, 2, 0, ⟨#[109]⟩⟩, endTk ⟨#[120, 35, 109]⟩]) := lex_good E _ _ w hE (by decide) ex_one
  have c2 : ∀ W, EnvL E W → Calls Tryz.prog 6 #[.string ⟨#[34, 97, 92, 110, 98, 34]⟩] W (Lexed W [⟨4, 0, 0, ⟨#[97, 10, 98]⟩⟩, endTk ⟨#[34, 97, 92, 110, 98, 34]⟩]) := fun W hW => lex_good E _ _ W hW (by decide) ex_two
  have C1 := Lib.hid c1
  have C2 := Lib.hid c2
  have HE := Lib.hid hE
  clear c1 c2 hE
  go_enter Tryz.func4, Tryz.ntmps4
  go_wp2_with fail
  refine C1.out.mono ?_
  rintro e w1 ⟨v, rfl, hown, hB1⟩
  go_wp2_with fail
  refine (C2.out _ (HE.out.self hB1 (Nat.le_refl _))).mono ?_
  rintro e w2 ⟨v2, rfl, hown2, hB2⟩
  have hown1 := own_below hown hB2
  have hB3 := hB1.trans (hB2.mono hB1.size)
  obtain ⟨g, cap, rfl, hg1, hg2⟩ := hown1.form (by simp)
  have hcells := hown1.cells (g := g) rfl
  have ha : ∀ j, (⟨g, 0, none⟩ : Addr).add j = ⟨g, j, none⟩ := fun j => by unfold Addr.add; split <;> simp_all
  have k3 : w2.cell? ⟨g, 3, none⟩ = some (.string ⟨#[120]⟩) := by rw [← ha 3]; exact hcells 3 _ rfl
  have k7 : w2.cell? ⟨g, 7, none⟩ = some (.string ⟨#[35]⟩) := by rw [← ha 7]; exact hcells 7 _ rfl
  have k9 : w2.cell? ⟨g, 9, none⟩ = some (.int .i64 2) := by rw [← ha 9]; exact hcells 9 _ rfl
  obtain ⟨g2, cap2, rfl, hg3, hg4⟩ := hown2.form (by simp)
  have hcells2 := hown2.cells (g := g2) rfl
  have ha2 : ∀ j, (⟨g2, 0, none⟩ : Addr).add j = ⟨g2, j, none⟩ := fun j => by unfold Addr.add; split <;> simp_all
  have q3 : w2.cell? ⟨g2, 3, none⟩ = some (.string ⟨#[97, 10, 98]⟩) := by rw [← ha2 3]; exact hcells2 3 _ rfl
  clear ha ha2 hown hown1 hown2 hcells hcells2
  go_wp2_with fail
  go_ret
  exact ⟨rfl, hB3⟩
end Go.Proofs.YtabngleincejfaaGreatDoor
