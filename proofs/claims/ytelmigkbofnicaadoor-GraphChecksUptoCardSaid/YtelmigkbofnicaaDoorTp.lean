/- What is trimmed, plainly: it may be, it is the same type, and trimmed again it is itself. -/
import Derived.Test.YtelmigkbofnicaaDoorTm
namespace Gu
theorem runR_more {args : Nat → List Nat} {N r K : Nat} (hK : ∀ n, n < N → (args n).length ≤ K) (hlt : ∀ n, n < N → ∀ c ∈ args n, c < N) : ∀ (k : Nat) (order todo : List Nat), Way args N r order todo → left N K order todo ≤ k → runR args (k + 1) order todo = runR args k order todo
  | 0, order, todo, _, hk => by
    have : todo = [] := List.eq_nil_of_length_eq_zero (by unfold left at hk; omega)
    subst this
    rfl
  | k + 1, order, todo, h, hk => by
    rcases List.eq_nil_or_concat todo with rfl | ⟨t, n, rfl⟩
    · rfl
    · rw [List.concat_eq_append] at h hk ⊢
      have hn : n < N := h.lt n (.inr (by simp))
      by_cases hc : n ∈ order
      · have hb : order.contains n = true := by simpa using hc
        rw [Go.Proofs.YtelmigkbofnicaaDoor.runR_skip hb, Go.Proofs.YtelmigkbofnicaaDoor.runR_skip hb]
        have := left_skip (N := N) (K := K) (n := n) (order := order) (todo := t)
        exact runR_more hK hlt k order t (h.skip hc) (by omega)
      · have hb : order.contains n = false := by simpa using hc
        rw [Go.Proofs.YtelmigkbofnicaaDoor.runR_step hb, Go.Proofs.YtelmigkbofnicaaDoor.runR_step hb]
        have := left_step h hc (hK n hn)
        exact runR_more hK hlt k _ _ (h.step hc (hlt n hn)) (by omega)
theorem runR_fuel {args : Nat → List Nat} {N r K : Nat} (hK : ∀ n, n < N → (args n).length ≤ K) (hlt : ∀ n, n < N → ∀ c ∈ args n, c < N) (k : Nat) (order todo : List Nat) (h : Way args N r order todo) (hk : left N K order todo ≤ k) : ∀ d, runR args (k + d) order todo = runR args k order todo
  | 0 => rfl
  | d + 1 => by rw [← Nat.add_assoc, runR_more hK hlt (k + d) order todo h (by omega)]; exact runR_fuel hK hlt k order todo h hk d
/-- A walk seen through names. -/
theorem runR_map {A B : Nat → List Nat} {f : Nat → Nat} {M : Nat} (hinj : ∀ a b, a < M → b < M → f a = f b → a = b) (hlt : ∀ n, n < M → ∀ c ∈ B n, c < M) (hab : ∀ n, n < M → A (f n) = (B n).map f) : ∀ (k : Nat) (order todo : List Nat), (∀ x ∈ order, x < M) → (∀ x ∈ todo, x < M) → runR A k (order.map f) (todo.map f) = (runR B k order todo).map f
  | 0, _, _, _, _ => rfl
  | k + 1, order, todo, ho, ht => by
    rcases List.eq_nil_or_concat todo with rfl | ⟨t, n, rfl⟩
    · rfl
    · rw [List.concat_eq_append] at ht ⊢
      have hn : n < M := ht n (by simp)
      have mem : ∀ (l : List Nat) (x : Nat), (∀ y ∈ l, y < M) → x < M → ((l.map f).contains (f x)) = l.contains x := fun l x hl hx => by
        rw [Bool.eq_iff_iff]
        simp only [List.contains_eq_mem, decide_eq_true_eq, List.mem_map]
        exact ⟨fun ⟨y, hy, e⟩ => hinj y x (hl y hy) hx e ▸ hy, fun h => ⟨x, h, rfl⟩⟩
      rw [List.map_append, List.map_singleton, runR, runR, List.getLast?_concat, List.getLast?_concat, List.dropLast_concat, List.dropLast_concat]
      simp only
      rw [mem order n ho hn]
      have ht' : ∀ x ∈ t, x < M := fun x hx => ht x (by simp [hx])
      split
      · exact runR_map hinj hlt hab k order t ho ht'
      · have ho' : ∀ x ∈ order ++ [n], x < M := fun x hx => by
          rcases List.mem_append.1 hx with h | h
          · exact ho x h
          · rw [List.mem_singleton.1 h]; exact hn
        have e : fresh (order.map f ++ [f n]) (A (f n)) = (fresh (order ++ [n]) (B n)).map f := by
          unfold fresh
          rw [hab n hn, ← List.map_reverse, List.filter_map]
          congr 1
          refine List.filter_congr fun x hx => ?_
          have hxM : x < M := hlt n hn x (List.mem_reverse.1 hx)
          show (!(order.map f ++ [f n]).contains (f x)) = _
          rw [show order.map f ++ [f n] = (order ++ [n]).map f by simp, mem _ _ ho' hxM]
        rw [e, show order.map f ++ [f n] = (order ++ [n]).map f by simp, ← List.map_append]
        refine runR_map hinj hlt hab k _ _ ho' fun x hx => ?_
        rcases List.mem_append.1 hx with h | h
        · exact ht' x h
        · exact hlt n hn x (mem_fresh.1 h).1
end Gu
namespace Go.Proofs.YtelmigkbofnicaaDoor
open Go.ChangeShapes Go.WideShapes Go.ChangeAt Go.RowKit

/-- What is known of the nodes that are reached. -/
structure Trimmed (G : List GN) (r : Nat) (L : List Nat) : Prop where
  ok : checkG G (r : Int) = 0
  short : ∀ x ∈ G, x.args.length ≤ 2000
  len : G.length ≤ 2000
  is : reachL G r = L
  nd : L.Nodup
  lt : ∀ x ∈ L, x < G.length
  head : L.head? = some r
  kids : ∀ a ∈ L, ∀ c ∈ argsOf G a, c ∈ L
theorem trimmed {G : List GN} {r : Nat} (hok : checkG G (r : Int) = 0) (aG : ∀ x ∈ G, x.args.length ≤ 2000) (lG : G.length ≤ 2000) : Trimmed G r (reachL G r) := by
  obtain ⟨h1, h2, h3, h4⟩ := (reachL_way hok aG).done
  exact ⟨hok, aG, lG, rfl, h1, h2, h3, h4⟩
section
variable {G : List GN} {r : Nat} {L : List Nat}
theorem Trimmed.tlen (h : Trimmed G r L) : (trimL G L).length = L.length := trimL_len h.lt
theorem Trimmed.pos (h : Trimmed G r L) : 0 < L.length := by
  rcases Nat.eq_zero_or_pos L.length with e | e
  · have := h.head; rw [List.eq_nil_of_length_eq_zero e] at this; cases this
  · exact e
theorem Trimmed.get (h : Trimmed G r L) {i a : Nat} (ha : L[i]? = some a) : ∃ x, G[a]? = some x ∧ (trimL G L)[i]? = some (trimN L x) := by
  obtain ⟨hi, e⟩ := List.getElem?_eq_some_iff.1 ha
  have := trimL_get h.lt hi
  subst e
  exact ⟨_, List.getElem?_eq_getElem (h.lt _ (List.getElem_mem hi)), this⟩
theorem Trimmed.back (h : Trimmed G r L) {x : GN} (hx : x ∈ trimL G L) : ∃ a y, a ∈ L ∧ G[a]? = some y ∧ x = trimN L y := by
  obtain ⟨i, hi, e⟩ := List.mem_iff_getElem.1 hx
  have hiL : i < L.length := by rw [← h.tlen]; exact hi
  obtain ⟨y, h1, h2⟩ := h.get (List.getElem?_eq_getElem hiL)
  obtain ⟨_, e2⟩ := List.getElem?_eq_some_iff.1 h2
  exact ⟨_, y, List.getElem_mem hiL, h1, by rw [← e, e2]⟩
theorem Trimmed.arg (h : Trimmed G r L) {a : Nat} {y : GN} (ha : a ∈ L) (hy : G[a]? = some y) {c : Int} (hc : c ∈ y.args) : 0 ≤ c ∧ c.toNat ∈ L := by
  obtain ⟨hal, e⟩ := List.getElem?_eq_some_iff.1 hy
  have h1 := args_fit h.ok hal c (by rw [e]; exact hc)
  refine ⟨h1.1, h.kids a ha _ ?_⟩
  rw [argsOf_eq hal, e]
  exact List.mem_map_of_mem hc
theorem Trimmed.check (h : Trimmed G r L) : checkG (trimL G L) 0 = 0 := by
  have hp := h.pos
  have hn := Gu.nodup_le h.nd h.lt
  have hl := h.len
  refine checkG_ok.2 ⟨by rw [h.tlen]; omega, inside_iff.2 (by rw [h.tlen]; omega), fun x hx => ?_⟩
  obtain ⟨a, y, ha, hy, rfl⟩ := h.back hx
  have hf := (checkG_ok.1 h.ok).2.2 y (List.mem_of_getElem? hy)
  rw [h.tlen]
  have hh : headB (trimN L y) = headB y := by unfold headB trimN; simp
  have hf2 := fit_head hf
  unfold fitG
  rw [hh, hf2, Bool.and_true]
  unfold argsIn
  rw [List.all_eq_true]
  intro d hd
  obtain ⟨c, hc, rfl⟩ := List.mem_map.1 (show d ∈ y.args.map fun a => ((L.idxOf a.toNat : Nat) : Int) from hd)
  have := List.idxOf_lt_length_of_mem (h.arg ha hy hc).2
  exact inside_iff.2 ⟨by omega, by omega⟩
theorem Trimmed.same (h : Trimmed G r L) : sameGr G (r : Int) (trimL G L) 0 = true := by
  refine sameGr_iff.2 ⟨h.ok, h.check, fun a b => L[b]? = some a, ?_, ⟨?_, ?_, ?_, ?_⟩⟩
  · have := h.head
    rw [List.head?_eq_getElem?] at this
    simpa using this
  · intro a b hab
    obtain ⟨x, h1, h2⟩ := h.get hab
    refine ⟨toN x, toN (trimN L x), ?_, ?_, ⟨rfl, rfl, rfl, rfl⟩, by simp [toN, trimN]⟩
    · unfold toG; rw [List.getElem?_map, h1]; rfl
    · unfold toG; rw [List.getElem?_map, h2]; rfl
  · intro a b x y hab hx hy i c d hc hd
    obtain ⟨x', h1, h2⟩ := h.get hab
    unfold toG at hx hy
    rw [List.getElem?_map, h1] at hx
    rw [List.getElem?_map, h2] at hy
    cases hx
    cases hy
    simp only [toN, trimN, List.getElem?_map, Option.map_map] at hc hd
    cases hz : x'.args[i]? with
    | none => rw [hz] at hc; cases hc
    | some z =>
      rw [hz] at hc hd
      simp only [Option.map_some, Function.comp, Option.some.injEq, Int.toNat_natCast] at hc hd
      have hm := (h.arg (List.mem_of_getElem? hab) h1 (List.mem_of_getElem? hz)).2
      have hl := List.idxOf_lt_length_of_mem hm
      show L[d]? = some c
      rw [← hd, ← hc, List.getElem?_eq_getElem hl, List.getElem_idxOf]
  · intro a b b' x hb hb' _ _
    obtain ⟨i1, e1⟩ := List.getElem?_eq_some_iff.1 hb
    obtain ⟨i2, e2⟩ := List.getElem?_eq_some_iff.1 hb'
    rcases Nat.lt_trichotomy b b' with h' | h' | h'
    · exact absurd (e1.trans e2.symm) (List.pairwise_iff_getElem.1 h.nd b b' i1 i2 h')
    · exact h'.symm
    · exact absurd (e2.trans e1.symm) (List.pairwise_iff_getElem.1 h.nd b' b i2 i1 h')
  · intro a a' b x hb hb' _ _
    rw [hb] at hb'
    exact (Option.some.inj hb').symm
theorem Trimmed.targs (h : Trimmed G r L) {b : Nat} (hb : b < L.length) : argsOf G L[b] = (argsOf (trimL G L) b).map (fun i => L.getD i 0) ∧ ∀ c ∈ argsOf (trimL G L) b, c < L.length := by
  obtain ⟨x, h1, h2⟩ := h.get (List.getElem?_eq_getElem hb)
  obtain ⟨hal, e⟩ := List.getElem?_eq_some_iff.1 h1
  obtain ⟨hbl, e2⟩ := List.getElem?_eq_some_iff.1 h2
  rw [argsOf_eq hal, argsOf_eq hbl, e, e2]
  refine ⟨?_, fun c hc => ?_⟩
  · unfold trimN
    simp only [List.map_map]
    refine List.map_congr_left fun z hz => ?_
    have hm := (h.arg (List.getElem_mem hb) h1 hz).2
    have hl := List.idxOf_lt_length_of_mem hm
    simp only [Function.comp, Int.toNat_natCast]
    rw [List.getD_eq_getElem?_getD, List.getElem?_eq_getElem hl, Option.getD_some, List.getElem_idxOf]
  · simp only [trimN, List.map_map, List.mem_map, Function.comp] at hc
    obtain ⟨z, hz, rfl⟩ := hc
    have hm := (h.arg (List.getElem_mem hb) h1 hz).2
    have := List.idxOf_lt_length_of_mem hm
    omega
theorem Trimmed.short2 (h : Trimmed G r L) : ∀ x ∈ trimL G L, x.args.length ≤ 2000 := fun x hx => by
  obtain ⟨a, y, ha, hy, rfl⟩ := h.back hx
  have := h.short y (List.mem_of_getElem? hy)
  simpa [trimN] using this
theorem Trimmed.again (h : Trimmed G r L) : reachL (trimL G L) 0 = List.range L.length := by
  have hp := h.pos
  have hL0 : L.getD 0 0 = r := by
    have := h.head
    rw [List.head?_eq_getElem?] at this
    rw [List.getD_eq_getElem?_getD, this]; rfl
  have gd : ∀ i, (hi : i < L.length) → L.getD i 0 = L[i] := fun i hi => by rw [List.getD_eq_getElem?_getD, List.getElem?_eq_getElem hi]; rfl
  have inj : ∀ a b, a < L.length → b < L.length → L.getD a 0 = L.getD b 0 → a = b := fun a b ha hb e => by
    rw [gd a ha, gd b hb] at e
    rcases Nat.lt_trichotomy a b with h' | h' | h'
    · exact absurd e (List.pairwise_iff_getElem.1 h.nd a b ha hb h')
    · exact h'
    · exact absurd e.symm (List.pairwise_iff_getElem.1 h.nd b a hb ha h')
  have hw := reachL_way (r := 0) (G := trimL G L) (by simpa using h.check) h.short2
  have key := fun k => Gu.runR_map (A := argsOf G) (B := argsOf (trimL G L)) (f := fun i => L.getD i 0) (M := L.length) inj (fun n hn => (h.targs hn).2) (fun n hn => by show argsOf G (L.getD n 0) = _; rw [gd n hn]; exact (h.targs hn).1) k [] [0] (fun x hx => by cases hx) (fun x hx => by rw [List.mem_singleton.1 hx]; exact hp)
  simp only [List.map_nil, List.map_singleton, hL0] at key
  have kG : ∀ n, n < G.length → (argsOf G n).length ≤ 2000 := fun n hn => by rw [argsOf_eq hn, List.length_map]; exact h.short _ (List.getElem_mem hn)
  have kT : ∀ n, n < (trimL G L).length → (argsOf (trimL G L) n).length ≤ 2000 := fun n hn => by rw [argsOf_eq hn, List.length_map]; exact h.short2 _ (List.getElem_mem hn)
  have hrG : r < G.length := h.lt r (by have := h.head; rw [List.head?_eq_getElem?] at this; exact List.mem_of_getElem? this)
  have e1 := Gu.runR_fuel kG (fun n hn => args_lt h.ok hn) _ [] [r] (Gu.way_start hrG) (Nat.le_refl _) (Gu.left (trimL G L).length 2000 [] [0])
  have e2 := Gu.runR_fuel kT (fun n hn => args_lt (by simpa using h.check) hn) _ [] [0] (Gu.way_start (r := 0) (by rw [h.tlen]; exact hp)) (Nat.le_refl _) (Gu.left G.length 2000 [] [r])
  have e3 := key (Gu.left G.length 2000 [] [r] + Gu.left (trimL G L).length 2000 [] [0])
  rw [e1, Nat.add_comm, e2] at e3
  have e4 : L = (reachL (trimL G L) 0).map fun i => L.getD i 0 := by
    have : reachL G r = (reachL (trimL G L) 0).map fun i => L.getD i 0 := e3
    rw [h.is] at this
    exact this
  have hlen : (reachL (trimL G L) 0).length = L.length := by
    have := congrArg List.length e4
    simpa using this.symm
  have hlt2 : ∀ x ∈ reachL (trimL G L) 0, x < L.length := fun x hx => by have := hw.done.2.1 x hx; rw [h.tlen] at this; exact this
  refine List.ext_getElem (by simp [hlen]) fun i hi1 hi2 => ?_
  rw [List.getElem_range]
  have hiL : i < L.length := by omega
  have e5 : L[i] = L.getD ((reachL (trimL G L) 0)[i]) 0 := by
    have h1 : L[i]? = ((reachL (trimL G L) 0).map fun i => L.getD i 0)[i]? := congrArg (fun l : List Nat => l[i]?) e4
    rw [List.getElem?_eq_getElem hiL, List.getElem?_map, List.getElem?_eq_getElem hi1] at h1
    exact Option.some.inj h1
  refine (inj i _ hiL (hlt2 _ (List.getElem_mem hi1)) ?_).symm
  rw [gd i hiL]
  exact e5
theorem Trimmed.twice (h : Trimmed G r L) : trimL (trimL G L) (reachL (trimL G L) 0) = trimL G L := by
  rw [h.again]
  have hlt : ∀ x ∈ List.range L.length, x < (trimL G L).length := fun x hx => by rw [h.tlen]; exact List.mem_range.1 hx
  have hl := trimL_len hlt
  rw [List.length_range] at hl
  refine List.ext_getElem (by rw [hl, h.tlen]) fun i hi1 hi2 => ?_
  have hiL : i < L.length := by rw [hl] at hi1; exact hi1
  have h1 := trimL_get hlt (i := i) (by simpa using hiL)
  obtain ⟨_, e1⟩ := List.getElem?_eq_some_iff.1 h1
  rw [e1]
  simp only [List.getElem_range]
  obtain ⟨x, h2, h3⟩ := h.get (List.getElem?_eq_getElem hiL)
  obtain ⟨_, e2⟩ := List.getElem?_eq_some_iff.1 h3
  rw [e2]
  have : (trimN L x).args.map (fun a => ((List.range L.length).idxOf a.toNat : Int)) = (trimN L x).args := by
    unfold trimN
    simp only [List.map_map]
    refine List.map_congr_left fun z hz => ?_
    have hm := (h.arg (List.getElem_mem hiL) h2 hz).2
    have hlz := List.idxOf_lt_length_of_mem hm
    simp only [Function.comp, Int.toNat_natCast]
    have : (List.range L.length).idxOf (L.idxOf z.toNat) = L.idxOf z.toNat := by
      have h4 : (List.range L.length)[L.idxOf z.toNat]'(by simpa using hlz) = L.idxOf z.toNat := List.getElem_range _
      have h5 := List.idxOf_lt_length_of_mem (List.mem_range.2 hlz)
      have h6 : (List.range L.length)[(List.range L.length).idxOf (L.idxOf z.toNat)] = L.idxOf z.toNat := List.getElem_idxOf h5
      rw [List.getElem_range] at h6
      exact h6
    rw [this]
  show ({ trimN L x with args := (trimN L x).args.map fun a => ((List.range L.length).idxOf a.toNat : Int) } : GN) = trimN L x
  rw [this]
end
end Go.Proofs.YtelmigkbofnicaaDoor
