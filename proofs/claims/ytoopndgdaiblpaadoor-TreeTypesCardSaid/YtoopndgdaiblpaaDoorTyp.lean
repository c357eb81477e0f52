/- trefoilref02.TypeOf: one of eight types. -/
import Derived.Test.YtoopndgdaiblpaaDoorTree
namespace Go.Proofs.YtoopndgdaiblpaaDoor
open Go.ChangeShapes Go.WideShapes Go.ChangeAt Go.RowKit

/-- A type as a value, its parts in blocks below B. -/
def TyV (W : World) (B : Nat → Prop) (vs : List Value) (t : Ty) : Prop := ∃ (k : Int) (s : ByteArray) (va vl : Value) (op : Bool) (args : List Ty) (labels : List ByteArray) (ga oa gl ol : Nat),
  vs = [.int .i64 k, .string s, va, vl, .bool op] ∧ t = .mk k s args labels op ∧ Sl B va args.length ga oa ∧ Sl B vl labels.length gl ol ∧
  (∀ i (h : i < args.length), TyAt W B ga (oa + i * 5) args[i]) ∧ (∀ i (h : i < labels.length), W.cell? ⟨gl, ol + i, none⟩ = some (.string labels[i]))

theorem TyV.at_ {W : World} {B : Nat → Prop} {vs : List Value} {t : Ty} (h : TyV W B vs t) {b o : Nat} (hb : B b) (hc : ∀ j u, vs[j]? = some u → W.cell? ⟨b, o + j, none⟩ = some u) : TyAt W B b o t := by
  obtain ⟨k, s, va, vl, op, args, labels, ga, oa, gl, ol, rfl, rfl, h1, h2, h3, h4⟩ := h
  exact .mk hb (hc 0 _ rfl) (hc 1 _ rfl) (hc 2 _ rfl) (hc 3 _ rfl) (hc 4 _ rfl) h1 h2 h3 h4
theorem TyV.carry {W W' : World} {B C : Nat → Prop} {vs : List Value} {t : Ty} (h : TyV W B vs t) (hB : Keeps B W W') (hC : ∀ b, B b → C b) : TyV W' C vs t := by
  obtain ⟨k, s, va, vl, op, args, labels, ga, oa, gl, ol, rfl, rfl, h1, h2, h3, h4⟩ := h
  exact ⟨k, s, va, vl, op, args, labels, ga, oa, gl, ol, rfl, rfl, h1.mono hC, h2.mono hC, fun i hi => (h3 i hi).carry hB hC, fun i hi => hB.cell (h2.lt (by omega)) (h4 i hi)⟩

def tInt : Ty := .mk 2 ⟨#[105, 110, 116]⟩ [] [] false
def tA : Ty := .mk 1 ⟨#[97]⟩ [] [] false
/-- What TypeOf tells. -/
def typeOf (n : Int) : Ty :=
  if n % 8 = 0 then tInt
  else if n % 8 = 1 then tA
  else if n % 8 = 2 then .mk 2 ⟨#[45, 62]⟩ [tInt, tA] [] false
  else if n % 8 = 3 then .mk 3 ⟨#[]⟩ [tInt, tA] [⟨#[109]⟩, ⟨#[110]⟩] false
  else if n % 8 = 4 then .mk 4 ⟨#[97]⟩ [.mk 3 ⟨#[]⟩ [tA] [⟨#[109]⟩] true] [] false
  else if n % 8 = 5 then .mk 3 ⟨#[]⟩ [tInt, tA] [⟨#[110]⟩, ⟨#[109]⟩] false
  else if n % 8 = 6 then .mk 2 ⟨#[42]⟩ [tInt] [] false
  else .mk 3 ⟨#[]⟩ [] [] true

theorem cell_block {w : World} {b j : Nat} {cs : Array Value} {T : TypeId} {u : Value} (h : w.heap[b]? = some (.cells cs T)) (hu : cs[j]? = some u) : w.cell? ⟨b, j, none⟩ = some u := by
  rw [Lib.cell_of_heap h j]; exact hu

def typGives (w : World) (n : Int) (e : Ending) (w' : World) : Prop := ∃ v0 v1 v2 v3 v4, e = .returned (.agg #[v0, v1, v2, v3, v4]) ∧ TyV w' (fun b => w.heap.size < b ∧ b < w'.heap.size) [v0, v1, v2, v3, v4] (typeOf n) ∧ Below w.heap.size w w'

/-- A type without parts, by its cells. -/
theorem leaf_at {W : World} {B : Nat → Prop} {b o : Nat} {k : Int} {s : ByteArray} {op : Bool} (hb : B b) (h0 : W.cell? ⟨b, o, none⟩ = some (.int .i64 k)) (h1 : W.cell? ⟨b, o + 1, none⟩ = some (.string s)) (h2 : W.cell? ⟨b, o + 2, none⟩ = some (.slice none 0 0)) (h3 : W.cell? ⟨b, o + 3, none⟩ = some (.slice none 0 0)) (h4 : W.cell? ⟨b, o + 4, none⟩ = some (.bool op)) :
    TyAt W B b o (.mk k s [] [] op) :=
  .mk (ga := 0) (oa := 0) (gl := 0) (ol := 0) hb h0 h1 h2 h3 h4 (.inl ⟨rfl, rfl⟩) (.inl ⟨rfl, rfl⟩) (fun _ h => absurd h (Nat.not_lt_zero _)) (fun _ h => absurd h (Nat.not_lt_zero _))

theorem typ_0 (n : Int) (w : World) (h0 : 0 ≤ n) (h1 : n ≤ 255) (h : n % 8 = 0) :
    Calls Tryd.prog 11 #[.int .u8 n] w (typGives w n) := by
  have ht : typeOf n = tInt := by unfold typeOf; simp [h]
  have HT := Lib.hid ht
  clear ht
  go_enter Tryd.func11, Tryd.ntmps11
  go_wp2_with fail
  refine bodyPost_ret (v := .agg #[.int .i64 2, .string ⟨#[105, 110, 116]⟩, .slice none 0 0, .slice none 0 0, .bool false]) (by simp [results, Tryd.results11, go_sem]) rfl ?_
  refine ⟨_, _, _, _, _, rfl, ?_, by go_grown⟩
  rw [HT.out]
  exact ⟨_, _, _, _, _, [], [], 0, 0, 0, 0, rfl, rfl, .inl ⟨rfl, rfl⟩, .inl ⟨rfl, rfl⟩, fun _ h => absurd h (Nat.not_lt_zero _), fun _ h => absurd h (Nat.not_lt_zero _)⟩

theorem typ_3 (n : Int) (w : World) (h0 : 0 ≤ n) (h1 : n ≤ 255) (h : n % 8 = 3) :
    Calls Tryd.prog 11 #[.int .u8 n] w (typGives w n) := by
  have ht : typeOf n = .mk 3 ⟨#[]⟩ [tInt, tA] [⟨#[109]⟩, ⟨#[110]⟩] false := by unfold typeOf; simp [h]
  have HT := Lib.hid ht
  clear ht
  go_enter Tryd.func11, Tryd.ntmps11
  go_wp2_with fail
  refine bodyPost_ret (v := .agg #[.int .i64 3, .string ⟨#[]⟩, .slice (some ⟨w.heap.size + 1 + 1 + 1 + 1, 0, none⟩) 2 2, .slice (some ⟨w.heap.size + 1 + 1 + 1, 0, none⟩) 2 2, .bool false]) (by simp [results, Tryd.results11, go_sem]) rfl ?_
  refine ⟨_, _, _, _, _, rfl, ?_, by go_grown⟩
  rw [HT.out]
  refine ⟨_, _, _, _, _, _, _, _, _, _, _, rfl, rfl, .inr ⟨_, rfl, by decide, by decide, (by simp <;> omega)⟩, .inr ⟨_, rfl, by decide, by decide, (by simp <;> omega)⟩, ?_, ?_⟩
  · intro i hi
    match i, hi with
    | 0, _ => exact leaf_at (by simp; omega) (by simp [go_sem]) (by simp [go_sem]) (by simp [go_sem]) (by simp [go_sem]) (by simp [go_sem])
    | 1, _ => exact leaf_at (by simp; omega) (by simp [go_sem]) (by simp [go_sem]) (by simp [go_sem]) (by simp [go_sem]) (by simp [go_sem])
  · intro i hi
    match i, hi with
    | 0, _ => simp [go_sem]
    | 1, _ => simp [go_sem]

theorem typ_1 (n : Int) (w : World) (h0 : 0 ≤ n) (h1 : n ≤ 255) (h : n % 8 = 1) :
    Calls Tryd.prog 11 #[.int .u8 n] w (typGives w n) := by
  have ht : typeOf n = tA := by unfold typeOf; simp [h]
  have HT := Lib.hid ht
  clear ht
  go_enter Tryd.func11, Tryd.ntmps11
  go_wp2_with fail
  refine bodyPost_ret (v := .agg #[.int .i64 1, .string ⟨#[97]⟩, .slice none 0 0, .slice none 0 0, .bool false]) (by simp [results, Tryd.results11, go_sem]) rfl ?_
  refine ⟨_, _, _, _, _, rfl, ?_, by go_grown⟩
  rw [HT.out]
  exact ⟨_, _, _, _, _, [], [], 0, 0, 0, 0, rfl, rfl, .inl ⟨rfl, rfl⟩, .inl ⟨rfl, rfl⟩, fun _ h => absurd h (Nat.not_lt_zero _), fun _ h => absurd h (Nat.not_lt_zero _)⟩

theorem typ_7 (n : Int) (w : World) (h0 : 0 ≤ n) (h1 : n ≤ 255) (h : n % 8 = 7) :
    Calls Tryd.prog 11 #[.int .u8 n] w (typGives w n) := by
  have ht : typeOf n = .mk 3 ⟨#[]⟩ [] [] true := by unfold typeOf; simp [h]
  have HT := Lib.hid ht
  clear ht
  go_enter Tryd.func11, Tryd.ntmps11
  go_wp2_with fail
  refine bodyPost_ret (v := .agg #[.int .i64 3, .string ⟨#[]⟩, .slice none 0 0, .slice none 0 0, .bool true]) (by simp [results, Tryd.results11, go_sem]) rfl ?_
  refine ⟨_, _, _, _, _, rfl, ?_, by go_grown⟩
  rw [HT.out]
  exact ⟨_, _, _, _, _, [], [], 0, 0, 0, 0, rfl, rfl, .inl ⟨rfl, rfl⟩, .inl ⟨rfl, rfl⟩, fun _ h => absurd h (Nat.not_lt_zero _), fun _ h => absurd h (Nat.not_lt_zero _)⟩

theorem typ_2 (n : Int) (w : World) (h0 : 0 ≤ n) (h1 : n ≤ 255) (h : n % 8 = 2) :
    Calls Tryd.prog 11 #[.int .u8 n] w (typGives w n) := by
  have ht : typeOf n = .mk 2 ⟨#[45, 62]⟩ [tInt, tA] [] false := by unfold typeOf; simp [h]
  have HT := Lib.hid ht
  clear ht
  go_enter Tryd.func11, Tryd.ntmps11
  go_wp2_with fail
  refine bodyPost_ret (v := .agg #[.int .i64 2, .string ⟨#[45, 62]⟩, .slice (some ⟨w.heap.size + 1 + 1 + 1, 0, none⟩) 2 2, .slice none 0 0, .bool false]) (by simp [results, Tryd.results11, go_sem]) rfl ?_
  refine ⟨_, _, _, _, _, rfl, ?_, by go_grown⟩
  rw [HT.out]
  refine ⟨_, _, _, _, _, _, [], _, _, 0, 0, rfl, rfl, .inr ⟨_, rfl, by decide, by decide, (by simp <;> omega)⟩, .inl ⟨rfl, rfl⟩, ?_, ?_⟩
  · intro i hi
    match i, hi with
    | 0, _ => exact leaf_at (by simp; omega) (by simp [go_sem]) (by simp [go_sem]) (by simp [go_sem]) (by simp [go_sem]) (by simp [go_sem])
    | 1, _ => exact leaf_at (by simp; omega) (by simp [go_sem]) (by simp [go_sem]) (by simp [go_sem]) (by simp [go_sem]) (by simp [go_sem])
  · exact fun _ h => absurd h (Nat.not_lt_zero _)

theorem typ_6 (n : Int) (w : World) (h0 : 0 ≤ n) (h1 : n ≤ 255) (h : n % 8 = 6) :
    Calls Tryd.prog 11 #[.int .u8 n] w (typGives w n) := by
  have ht : typeOf n = .mk 2 ⟨#[42]⟩ [tInt] [] false := by unfold typeOf; simp [h]
  have HT := Lib.hid ht
  clear ht
  go_enter Tryd.func11, Tryd.ntmps11
  go_wp2_with fail
  refine bodyPost_ret (v := .agg #[.int .i64 2, .string ⟨#[42]⟩, .slice (some ⟨w.heap.size + 1 + 1 + 1, 0, none⟩) 1 1, .slice none 0 0, .bool false]) (by simp [results, Tryd.results11, go_sem]) rfl ?_
  refine ⟨_, _, _, _, _, rfl, ?_, by go_grown⟩
  rw [HT.out]
  refine ⟨_, _, _, _, _, _, [], _, _, 0, 0, rfl, rfl, .inr ⟨_, rfl, by decide, by decide, (by simp <;> omega)⟩, .inl ⟨rfl, rfl⟩, ?_, ?_⟩
  · intro i hi
    match i, hi with
    | 0, _ => exact leaf_at (by simp; omega) (by simp [go_sem]) (by simp [go_sem]) (by simp [go_sem]) (by simp [go_sem]) (by simp [go_sem])
  · exact fun _ h => absurd h (Nat.not_lt_zero _)

theorem typ_5 (n : Int) (w : World) (h0 : 0 ≤ n) (h1 : n ≤ 255) (h : n % 8 = 5) :
    Calls Tryd.prog 11 #[.int .u8 n] w (typGives w n) := by
  have ht : typeOf n = .mk 3 ⟨#[]⟩ [tInt, tA] [⟨#[110]⟩, ⟨#[109]⟩] false := by unfold typeOf; simp [h]
  have HT := Lib.hid ht
  clear ht
  go_enter Tryd.func11, Tryd.ntmps11
  go_wp2_with fail
  refine bodyPost_ret (v := .agg #[.int .i64 3, .string ⟨#[]⟩, .slice (some ⟨w.heap.size + 1 + 1 + 1 + 1, 0, none⟩) 2 2, .slice (some ⟨w.heap.size + 1 + 1 + 1, 0, none⟩) 2 2, .bool false]) (by simp [results, Tryd.results11, go_sem]) rfl ?_
  refine ⟨_, _, _, _, _, rfl, ?_, by go_grown⟩
  rw [HT.out]
  refine ⟨_, _, _, _, _, _, _, _, _, _, _, rfl, rfl, .inr ⟨_, rfl, by decide, by decide, (by simp <;> omega)⟩, .inr ⟨_, rfl, by decide, by decide, (by simp <;> omega)⟩, ?_, ?_⟩
  · intro i hi
    match i, hi with
    | 0, _ => exact leaf_at (by simp; omega) (by simp [go_sem]) (by simp [go_sem]) (by simp [go_sem]) (by simp [go_sem]) (by simp [go_sem])
    | 1, _ => exact leaf_at (by simp; omega) (by simp [go_sem]) (by simp [go_sem]) (by simp [go_sem]) (by simp [go_sem]) (by simp [go_sem])
  · intro i hi
    match i, hi with
    | 0, _ => simp [go_sem]
    | 1, _ => simp [go_sem]

theorem typ_4 (n : Int) (w : World) (h0 : 0 ≤ n) (h1 : n ≤ 255) (h : n % 8 = 4) :
    Calls Tryd.prog 11 #[.int .u8 n] w (typGives w n) := by
  have ht : typeOf n = .mk 4 ⟨#[97]⟩ [.mk 3 ⟨#[]⟩ [tA] [⟨#[109]⟩] true] [] false := by unfold typeOf; simp [h]
  have HT := Lib.hid ht
  clear ht
  go_enter Tryd.func11, Tryd.ntmps11
  go_wp2_with fail
  refine bodyPost_ret (v := .agg #[.int .i64 4, .string ⟨#[97]⟩, .slice (some ⟨w.heap.size + 1 + 1 + 1 + 1 + 1, 0, none⟩) 1 1, .slice none 0 0, .bool false]) (by simp [results, Tryd.results11, go_sem]) rfl ?_
  refine ⟨_, _, _, _, _, rfl, ?_, by go_grown⟩
  rw [HT.out]
  refine ⟨_, _, _, _, _, _, [], _, _, 0, 0, rfl, rfl, .inr ⟨_, rfl, by decide, by decide, (by simp <;> omega)⟩, .inl ⟨rfl, rfl⟩, ?_, ?_⟩
  · intro i hi
    match i, hi with
    | 0, _ =>
      refine .mk (va := .slice (some ⟨w.heap.size + 1 + 1 + 1 + 1, 0, none⟩) 1 1) (vl := .slice (some ⟨w.heap.size + 1 + 1 + 1, 0, none⟩) 1 1) (ga := w.heap.size + 1 + 1 + 1 + 1) (oa := 0) (gl := w.heap.size + 1 + 1 + 1) (ol := 0) (by simp; omega) (by simp [go_sem]) (by simp [go_sem]) (by simp [go_sem]) (by simp [go_sem]) (by simp [go_sem]) (.inr ⟨1, rfl, by decide, by decide, (by simp <;> omega)⟩) (.inr ⟨1, rfl, by decide, by decide, (by simp <;> omega)⟩) ?_ ?_
      · intro i hi
        match i, hi with
        | 0, _ => exact leaf_at (by simp; omega) (by simp [go_sem]) (by simp [go_sem]) (by simp [go_sem]) (by simp [go_sem]) (by simp [go_sem])
      · intro i hi
        match i, hi with
        | 0, _ => simp [go_sem]
  · exact fun _ h => absurd h (Nat.not_lt_zero _)

theorem typ_any (n : Int) (w : World) (h0 : 0 ≤ n) (h1 : n ≤ 255) : Calls Tryd.prog 11 #[.int .u8 n] w (typGives w n) := by
  have h : n % 8 = 0 ∨ n % 8 = 1 ∨ n % 8 = 2 ∨ n % 8 = 3 ∨ n % 8 = 4 ∨ n % 8 = 5 ∨ n % 8 = 6 ∨ n % 8 = 7 := by omega
  rcases h with h | h | h | h | h | h | h | h
  · exact typ_0 n w h0 h1 h
  · exact typ_1 n w h0 h1 h
  · exact typ_2 n w h0 h1 h
  · exact typ_3 n w h0 h1 h
  · exact typ_4 n w h0 h1 h
  · exact typ_5 n w h0 h1 h
  · exact typ_6 n w h0 h1 h
  · exact typ_7 n w h0 h1 h
end Go.Proofs.YtoopndgdaiblpaaDoor
