/- What tree.Check wants to know of a tree: kinds, texts and types as drawn parts have them; closed under parts. -/
import Derived.Test.YtoopndgdaiblpaaDoorFq
import Derived.Test.YtoopndgdaiblpaaDoorTq
namespace Go.Proofs.YtoopndgdaiblpaaDoor
open Go.ChangeShapes Go.WideShapes Go.ChangeAt Go.RowKit

/-- A tree whose parts are of kinds that there are, with types that are known. -/
inductive Fair : Nd → Prop
  | ex {k : Int} {s : ByteArray} {n : Int} {names : List ByteArray} {types : List Ty} {args mems : List Nd} (hk : 0 ≤ k ∧ k ≤ 20) (hs : s.size ≤ maxLen) (hn : ∀ x ∈ names, x.size ≤ maxLen) (ht : ∀ x ∈ types, KT x ∧ tySize x ≤ 900000) (hl : types.length ≤ 2) (ha : ∀ x ∈ args, Fair x) (hm : ∀ x ∈ mems, Fair x) : Fair (.ex k s n names types args mems)
  | me {k : Int} {nm a : ByteArray} {types : List Ty} {args : List Nd} (hk : 0 ≤ k ∧ k ≤ 4) (hs : nm.size ≤ maxLen) (hn : a.size ≤ maxLen) (ht : ∀ x ∈ types, KT x ∧ tySize x ≤ 900000) (hl : types.length ≤ 2) (ha : ∀ x ∈ args, Fair x) : Fair (.me k nm a types args)

theorem flat_mem {f : Nd → List (Nd × Nat)} {l : List Nd} {x : Nd × Nat} (h : x ∈ (l.map f).reverse.flatten) : ∃ t ∈ l, x ∈ f t := by
  obtain ⟨y, hy, hx⟩ := List.mem_flatten.1 h
  obtain ⟨t, ht, rfl⟩ := List.mem_map.1 (List.mem_reverse.1 hy)
  exact ⟨t, ht, hx⟩
theorem Fair.trav {t : Nd} (h : Fair t) : ∀ d, ∀ x ∈ trav d t, Fair x.1 := by
  induction h with
  | ex hk hs hn ht hl ha hm iha ihm =>
    intro d x hx
    rw [Go.Proofs.YtoopndgdaiblpaaDoor.trav] at hx
    rcases List.mem_cons.1 hx with rfl | hx
    · exact .ex hk hs hn ht hl ha hm
    · rcases List.mem_append.1 hx with hx | hx
      · obtain ⟨t, ht', hx⟩ := flat_mem hx
        exact iha t ht' _ x hx
      · obtain ⟨t, ht', hx⟩ := flat_mem hx
        exact ihm t ht' _ x hx
  | me hk hs hn ht hl ha iha =>
    intro d x hx
    rw [Go.Proofs.YtoopndgdaiblpaaDoor.trav] at hx
    rcases List.mem_cons.1 hx with rfl | hx
    · exact .me hk hs hn ht hl ha
    · obtain ⟨t, ht', hx⟩ := flat_mem hx
      exact iha t ht' _ x hx

/-- The types of a part. -/
def ndTypes : Nd → List Ty
  | .ex _ _ _ _ types _ _ => types
  | .me _ _ _ types _ => types
/-- What tree.fits says of a part. -/
def partB : Nd → Bool
  | .ex k s n names types args mems => fitB (.ex k s n names types args mems)
  | .me k nm a types args => meB (.me k nm a types args)
theorem Fair.types {t : Nd} (h : Fair t) : ∀ x ∈ ndTypes t, KT x ∧ tySize x ≤ 900000 := by
  cases h <;> assumption
theorem Fair.types_len {t : Nd} (h : Fair t) : (ndTypes t).length ≤ 2 := by
  cases h <;> assumption

/-- Parts whose texts are not too great. -/
def Txt (l : List Pt) : Prop := ∀ p ∈ l, p.s.size ≤ 5000
/-- Trees of parts are fair, and what is left is some of the parts. -/
def FairG (g : List Pt → Nd × List Pt) : Prop := ∀ l, Txt l → Fair (g l).1 ∧ Txt (g l).2
theorem kt_types (n : Int) : KT (typeOf n) ∧ tySize (typeOf n) ≤ 900000 := ⟨kt_typeOf n, by have := typeOf_small n; omega⟩
theorem small_len {n : Nat} (h : n ≤ 5000) : n ≤ maxLen := by unfold maxLen; omega
theorem fair_unit : Fair unitN := .ex (by decide) (Nat.zero_le _) (fun _ h => by cases h) (fun _ h => by cases h) (Nat.zero_le _) (fun _ h => by cases h) (fun _ h => by cases h)
theorem txt_nil : Txt [] := fun _ h => by cases h
theorem argsL_fair {g : List Pt → Nd × List Pt} (hg : FairG g) : ∀ (m : Nat) (l : List Pt), Txt l → (∀ x ∈ (argsL g m l).1, Fair x) ∧ Txt (argsL g m l).2
  | 0, l, hl => ⟨fun _ h => (by cases h), hl⟩
  | m + 1, l, hl => by
    have h1 := hg l hl
    have h2 := argsL_fair hg m _ h1.2
    refine ⟨fun x h => ?_, h2.2⟩
    simp only [argsL] at h
    rcases List.mem_cons.1 h with rfl | h
    · exact h1.1
    · exact h2.1 x h
theorem memL_fair {g : List Pt → Nd × List Pt} (hg : FairG g) (l : List Pt) (hl : Txt l) : Fair (memL g l).1 ∧ Txt (memL g l).2 := by
  cases l with
  | nil => 
    have h1 := hg [] txt_nil
    exact ⟨.me (by decide) (small_len (by decide)) (Nat.zero_le _) (fun _ h => by cases h) (Nat.zero_le _) (fun x hx => by rw [List.mem_singleton.1 hx]; exact h1.1), h1.2⟩
  | cons q r =>
    have hq := hl q (by simp)
    have hr : Txt r := fun p hp => hl p (by simp [hp])
    by_cases h : q.args % 5 = 4
    · have e : memL g (q :: r) = (.me 4 q.s ⟨#[]⟩ [typeOf q.t] [], r) := by rw [memL, if_pos h]
      rw [e]
      exact ⟨.me (by decide) (small_len hq) (Nat.zero_le _) (fun x hx => by rw [List.mem_singleton.1 hx]; exact kt_types _) (by simp) (fun _ h => by cases h), hr⟩
    · have e : memL g (q :: r) = (.me (q.args % 5) q.s (if q.args % 5 = 1 ∧ 0 < q.n then ⟨#[115, 117, 112, 101, 114]⟩ else ⟨#[]⟩) [] [(g r).1], (g r).2) := by rw [memL, if_neg h]
      rw [e]
      have h1 := hg r hr
      refine ⟨.me ⟨by omega, by omega⟩ (small_len hq) ?_ (fun _ h => by cases h) (Nat.zero_le _) (fun x hx => by rw [List.mem_singleton.1 hx]; exact h1.1), h1.2⟩
      split
      · exact small_len (by decide)
      · exact Nat.zero_le _
theorem memsL_fair {g : List Pt → Nd × List Pt} (hg : FairG g) : ∀ (m : Nat) (l : List Pt), Txt l → (∀ x ∈ (memsL g m l).1, Fair x) ∧ Txt (memsL g m l).2
  | 0, l, hl => ⟨fun _ h => (by cases h), hl⟩
  | m + 1, l, hl => by
    have h1 := memL_fair hg l hl
    have h2 := memsL_fair hg m _ h1.2
    refine ⟨fun x h => ?_, h2.2⟩
    simp only [memsL] at h
    rcases List.mem_cons.1 h with rfl | h
    · exact h1.1
    · exact h2.1 x h
theorem ofL_fair : ∀ f, FairG (ofL f)
  | 0, _, _ => ⟨fair_unit, txt_nil⟩
  | _ + 1, [], _ => ⟨fair_unit, txt_nil⟩
  | f + 1, p :: r, hl => by
    have hp := hl p (by simp)
    have hr : Txt r := fun p hp => hl p (by simp [hp])
    have h1 := argsL_fair (ofL_fair f) (p.args % 4).toNat r hr
    have h2 := memsL_fair (ofL_fair f) (p.args % 4).toNat r hr
    rw [ofL]
    split
    · exact ⟨.ex (by decide) (small_len hp) (fun _ h => by cases h) (fun _ h => by cases h) (Nat.zero_le _) (fun _ h => by cases h) h2.1, h2.2⟩
    · refine ⟨.ex ⟨by omega, by omega⟩ ?_ ?_ ?_ ?_ h1.1 (fun _ h => by cases h), h1.2⟩
      · split
        · exact Nat.zero_le _
        · exact small_len hp
      · intro x hx
        split at hx
        · rw [(List.mem_replicate.1 hx).2]; exact small_len hp
        · cases hx
      · intro x hx
        split at hx
        · rw [List.mem_singleton.1 hx]; exact kt_types _
        · split at hx
          · simp only [List.mem_cons, List.not_mem_nil, or_false] at hx
            rcases hx with rfl | rfl <;> exact kt_types _
          · cases hx
      · split
        · simp
        · split <;> simp
end Go.Proofs.YtoopndgdaiblpaaDoor
