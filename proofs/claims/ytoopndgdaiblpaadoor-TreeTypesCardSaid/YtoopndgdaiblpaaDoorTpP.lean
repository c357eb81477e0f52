/- What TreeParts asks of trees: children and what lies below them, opened; a pair of a tree and itself. -/
import Derived.Test.YtoopndgdaiblpaaDoorCkV
import Derived.Test.YtoopndgdaiblpaaDoorVal
namespace Go.Proofs.YtoopndgdaiblpaaDoor
open Go.ChangeShapes Go.WideShapes Go.ChangeAt Go.RowKit

/-- An expression that lies there, opened. -/
theorem NdAt.open_ex {W : World} {S : Nat → Prop} {b o : Nat} {t : Nd} (h : NdAt W S b o t) (he : isEx t = true) :
    ∃ (k : Int) (s : ByteArray) (n : Int) (xa : Option Addr) (la ca : Nat) (xn : Option Addr) (ln cn : Nat) (xt : Option Addr) (lt ct : Nat) (xm : Option Addr) (lm cm : Nat), S b ∧
      W.cell? ⟨b, o, none⟩ = some (.int .i64 k) ∧ W.cell? ⟨b, o + 1, none⟩ = some (.string s) ∧ W.cell? ⟨b, o + 2, none⟩ = some (.int .i64 n) ∧ W.cell? ⟨b, o + 3, none⟩ = some (.slice xa la ca) ∧ W.cell? ⟨b, o + 4, none⟩ = some (.slice xn ln cn) ∧ W.cell? ⟨b, o + 5, none⟩ = some (.slice xt lt ct) ∧ W.cell? ⟨b, o + 6, none⟩ = some (.slice xm lm cm) ∧
      ExV W S [.int .i64 k, .string s, .int .i64 n, .slice xa la ca, .slice xn ln cn, .slice xt lt ct, .slice xm lm cm] t := by
  cases h with
  | me => cases he
  | ex hb h0 h1 h2 h3 h4 h5 h6 ha hn ht hm hs hns hts hms hax hmx =>
    obtain ⟨xa, ca, rfl, _⟩ := ha.shape
    obtain ⟨xn, cn, rfl, _⟩ := hn.shape
    obtain ⟨xt, ct, rfl, _⟩ := ht.shape
    obtain ⟨xm, cm, rfl, _⟩ := hm.shape
    exact ⟨_, _, _, xa, _, ca, xn, _, cn, xt, _, ct, xm, _, cm, hb, h0, h1, h2, h3, h4, h5, h6, _, _, _, _, _, _, _, _, _, _, _, _, _, _, _, _, _, _, _, rfl, rfl, ha, hn, ht, hm, hs, hns, hts, hms, hax, hmx⟩

/-- A member that lies there, opened. -/
theorem NdAt.open_me {W : World} {S : Nat → Prop} {b o : Nat} {t : Nd} (h : NdAt W S b o t) (he : isEx t = false) :
    ∃ (k : Int) (s a : ByteArray) (xa : Option Addr) (ca : Nat) (xt : Option Addr) (lt ct ga oa : Nat), S b ∧
      W.cell? ⟨b, o, none⟩ = some (.int .i64 k) ∧ W.cell? ⟨b, o + 1, none⟩ = some (.string s) ∧ W.cell? ⟨b, o + 2, none⟩ = some (.string a) ∧ W.cell? ⟨b, o + 3, none⟩ = some (.slice xa (meArgs t).length ca) ∧ W.cell? ⟨b, o + 4, none⟩ = some (.slice xt lt ct) ∧
      (0 < (meArgs t).length → xa = some ⟨ga, oa, none⟩ ∧ (meArgs t).length ≤ ca ∧ ca ≤ maxLen ∧ S ga) ∧ (∀ i (h : i < (meArgs t).length), NdAt W S ga (oa + i * 7) (meArgs t)[i]) ∧ ∀ x ∈ meArgs t, isEx x = true := by
  cases h with
  | ex => cases he
  | me hb h0 h1 h2 h3 h4 ha ht hs hts hax =>
    obtain ⟨xa, ca, rfl, hxa⟩ := ha.shape
    obtain ⟨xt, ct, rfl, _⟩ := ht.shape
    exact ⟨_, _, _, xa, ca, xt, _, ct, _, _, hb, h0, h1, h2, h3, h4, hxa, hs, hax⟩

/-- An expression's cells as a value, opened. -/
theorem ExV.open_ {W : World} {S : Nat → Prop} {c0 c1 c2 c3 c4 c5 c6 : Value} {t : Nd} (h : ExV W S [c0, c1, c2, c3, c4, c5, c6] t) :
    ∃ (k : Int) (s : ByteArray) (n : Int) (names : List ByteArray) (types : List Ty) (args mems : List Nd) (xa : Option Addr) (ca : Nat) (xn : Option Addr) (ln cn : Nat) (xt : Option Addr) (lt ct : Nat) (xm : Option Addr) (cm : Nat) (ga oa gm om : Nat),
      t = .ex k s n names types args mems ∧ c0 = .int .i64 k ∧ c1 = .string s ∧ c2 = .int .i64 n ∧ c3 = .slice xa args.length ca ∧ c4 = .slice xn ln cn ∧ c5 = .slice xt lt ct ∧ c6 = .slice xm mems.length cm ∧
      (0 < args.length → xa = some ⟨ga, oa, none⟩ ∧ args.length ≤ ca ∧ ca ≤ maxLen ∧ S ga) ∧ (∀ i (h : i < args.length), NdAt W S ga (oa + i * 7) args[i]) ∧ (∀ x ∈ args, isEx x = true) ∧
      (0 < mems.length → xm = some ⟨gm, om, none⟩ ∧ mems.length ≤ cm ∧ cm ≤ maxLen ∧ S gm) ∧ (∀ i (h : i < mems.length), NdAt W S gm (om + i * 5) mems[i]) ∧ ∀ x ∈ mems, isEx x = false := by
  obtain ⟨k, s, n, va, vn, vt, vm, names, types, args, mems, ga, oa, gn, on, gt, ot, gm, om, hv, rfl, h1, h2, h3, h4, h5, h6, h7, h8, h9, h10⟩ := h
  simp only [List.cons.injEq, and_true] at hv
  obtain ⟨rfl, rfl, rfl, rfl, rfl, rfl, rfl⟩ := hv
  obtain ⟨xa, ca, rfl, hxa⟩ := h1.shape
  obtain ⟨xn, cn, rfl, _⟩ := h2.shape
  obtain ⟨xt, ct, rfl, _⟩ := h3.shape
  obtain ⟨xm, cm, rfl, hxm⟩ := h4.shape
  exact ⟨k, s, n, names, types, args, mems, xa, ca, xn, _, cn, xt, _, ct, xm, cm, ga, oa, gm, om, rfl, rfl, rfl, rfl, rfl, rfl, rfl, rfl, hxa, h5, h9, hxm, h8, h10⟩

/-- A pair of a tree and itself, as a value. -/
theorem pair_ExV {W : World} {S : Nat → Prop} {c : List Value} {e : Nd} {g : Nat} (h : ExV W S c e) (hc : c.length = 7) (hg : S g) (hx : isEx e = true) (hb : ∀ j u, (c ++ c)[j]? = some u → W.cell? ⟨g, j, none⟩ = some u) :
    ExV W S [.int .i64 10, .string ⟨#[]⟩, .int .i64 0, .slice (some ⟨g, 0, none⟩) 2 2, .slice none 0 0, .slice none 0 0, .slice none 0 0] (pairN e) := by
  refine ⟨10, ⟨#[]⟩, 0, _, _, _, _, [], [], [e, e], [], g, 0, 0, 0, 0, 0, 0, 0, rfl, rfl, .inr ⟨2, rfl, by simp, by decide, hg⟩, .inl ⟨rfl, rfl⟩, .inl ⟨rfl, rfl⟩, .inl ⟨rfl, rfl⟩, fun i hi => ?_, fun i hi => absurd hi (Nat.not_lt_zero _), fun i hi => absurd hi (Nat.not_lt_zero _), fun i hi => absurd hi (Nat.not_lt_zero _), ?_, fun x hx => by cases hx⟩
  · match i, hi with
    | 0, _ =>
      refine h.at_ hg fun j u hj => ?_
      have hl := (List.getElem?_eq_some_iff.1 hj).1
      have := hb j u (by rw [List.getElem?_append_left hl]; exact hj)
      simpa using this
    | 1, _ =>
      refine h.at_ hg fun j u hj => ?_
      have := hb (7 + j) u (by rw [List.getElem?_append_right (by omega), hc, Nat.add_sub_cancel_left]; exact hj)
      simpa using this
  · intro x hx'
    simp only [List.mem_cons, List.not_mem_nil, or_false, or_self] at hx'
    rw [hx']; exact hx
theorem pair_size (e : Nd) : ndSize (pairN e) = 2 * ndSize e + 1 := by
  unfold pairN
  rw [ndSize_ex]
  simp [ndSum]
  omega
theorem pair_value (e : Nd) : valueB (pairN e) = valueB e := by
  unfold pairN
  rw [value_pair, Bool.and_self]
theorem fair_pair {e : Nd} (h : Fair e) : Fair (pairN e) :=
  .ex (by decide) (Nat.zero_le _) (fun _ h => by cases h) (fun _ h => by cases h) (Nat.zero_le _) (fun x hx => by
    simp only [List.mem_cons, List.not_mem_nil, or_false, or_self] at hx
    rw [hx]; exact h) (fun _ h => by cases h)
theorem ndSum_mem {l : List Nd} {x : Nd} (h : x ∈ l) : ndSize x ≤ ndSum l := by
  induction l with
  | nil => cases h
  | cons a r ih =>
    simp only [ndSum, List.map_cons, List.sum_cons] at ih ⊢
    rcases List.mem_cons.1 h with rfl | h
    · omega
    · have := ih h; omega
theorem size_arg {k : Int} {s : ByteArray} {n : Int} {names : List ByteArray} {types : List Ty} {args mems : List Nd} {x : Nd} (hm : x ∈ args) : ndSize x < ndSize (.ex k s n names types args mems) := by
  have := ndSum_mem hm
  rw [ndSize_ex]; omega
theorem size_mem {k : Int} {s : ByteArray} {n : Int} {names : List ByteArray} {types : List Ty} {args mems : List Nd} {m x : Nd} (hm : m ∈ mems) (hx : x ∈ meArgs m) : ndSize x < ndSize (.ex k s n names types args mems) := by
  have h1 := ndSum_mem hm
  have h2 : ndSize x ≤ ndSize m := by
    cases m with
    | ex => cases hx
    | me k nm a ts ags =>
      have := ndSum_mem (l := ags) hx
      rw [ndSize_me]; omega
  rw [ndSize_ex]; omega
theorem Fair.arg {k : Int} {s : ByteArray} {n : Int} {names : List ByteArray} {types : List Ty} {args mems : List Nd} {x : Nd} (h : Fair (.ex k s n names types args mems)) (hm : x ∈ args) : Fair x := by
  cases h with
  | ex _ _ _ _ _ ha _ => exact ha x hm
theorem Fair.mem {k : Int} {s : ByteArray} {n : Int} {names : List ByteArray} {types : List Ty} {args mems : List Nd} {m x : Nd} (h : Fair (.ex k s n names types args mems)) (hm : m ∈ mems) (hx : x ∈ meArgs m) : Fair x := by
  cases h with
  | ex _ _ _ _ _ _ hms =>
    cases hms m hm with
    | ex => cases hx
    | me _ _ _ _ _ ha => exact ha x hx
theorem errE_ways (t : Nd) : errE t = 0 ∨ errE t = 2 ∨ errE t = 4 := by
  unfold errE
  split
  · exact .inr (.inl rfl)
  · split
    · exact .inr (.inr rfl)
    · exact .inl rfl
theorem value_v (S : Nat → Prop) (k : Int) (s : ByteArray) (n : Int) (va vn vt vm : Value) (w : World) (t : Nd) (hsz : ndSize t ≤ 1000000) (hS : ∀ b, S b → b < w.heap.size) (ht : ExV w S [.int .i64 k, .string s, .int .i64 n, va, vn, vt, vm] t) :
    Calls Tryd.prog 21 #[.agg #[.int .i64 k, .string s, .int .i64 n, va, vn, vt, vm]] w fun e w' => e = .returned (.bool (valueB t)) ∧ Below w.heap.size w w' := by
  have xt : isEx t = true := by obtain ⟨_, _, _, _, _, _, _, _, _, _, _, _, _, _, _, _, _, _, _, _, rfl, _⟩ := ht; rfl
  refine val_any k s n va vn vt vm w t hsz ((ht.carry (fun b hb => heap_old (hS b hb)) fun b hb => ?_).at_ ?_ fun j x hj => ?_) xt
  · have := hS b hb; omega
  · omega
  · rw [Nat.zero_add]
    refine cell_block (cs := #[.int .i64 k, .string s, .int .i64 n, va, vn, vt, vm]) (T := 33) (heap_last rfl) ?_
    simpa using hj
theorem deep_le_size {t : Nd} (h : Fair t) (hz : ndSize t ≤ 900000) : ndDeep t ≤ 900001 := by
  have key : ∀ t : Nd, Fair t → ∀ d, ∀ p ∈ trav d t, p.2 ≤ d + ndSize t := by
    intro t h
    induction h with
    | ex hk hs hn ht hl ha hm iha ihm =>
      intro d p hp
      rw [trav] at hp
      rw [ndSize_ex]
      rcases List.mem_cons.1 hp with rfl | hp
      · simp only; omega
      · rcases List.mem_append.1 hp with hp | hp
        · obtain ⟨u, hu, hx⟩ := flat_mem hp
          have := iha u hu (d + 1) p hx
          have := ndSum_mem hu
          omega
        · obtain ⟨u, hu, hx⟩ := flat_mem hp
          have := ihm u hu (d + 1) p hx
          have := ndSum_mem hu
          omega
    | me hk hs hn ht hl ha iha =>
      intro d p hp
      rw [trav] at hp
      rw [ndSize_me]
      rcases List.mem_cons.1 hp with rfl | hp
      · simp only; omega
      · obtain ⟨u, hu, hx⟩ := flat_mem hp
        have := iha u hu (d + 1) p hx
        have := ndSum_mem hu
        omega
  rw [ndDeep_le]
  intro p hp
  have := key t h 1 p hp
  omega
end Go.Proofs.YtoopndgdaiblpaaDoor
