import Derived.Test.YtkbmkmpoapafaaaDoorUf
namespace Gu

/-- A node of a graph of types: its kind, its name, where it leads, its labels, whether it may have more. -/
structure Gn where
  k : Int
  nm : ByteArray
  args : List Nat
  labels : List ByteArray
  op : Bool

def Gn.free (x : Gn) : Prop := x.k = 1 ∨ x.op = true
def Alike (x y : Gn) : Prop := x.k = y.k ∧ x.nm = y.nm ∧ x.op = y.op ∧ x.labels = y.labels
theorem Alike.refl (x : Gn) : Alike x x := ⟨rfl, rfl, rfl, rfl⟩
theorem Alike.symm {x y : Gn} (h : Alike x y) : Alike y x := ⟨h.1.symm, h.2.1.symm, h.2.2.1.symm, h.2.2.2.symm⟩
theorem Alike.trans {x y z : Gn} (h : Alike x y) (g : Alike y z) : Alike x z := ⟨h.1.trans g.1, h.2.1.trans g.2.1, h.2.2.1.trans g.2.2.1, h.2.2.2.trans g.2.2.2⟩
theorem Alike.free {x y : Gn} (h : Alike x y) : x.free ↔ y.free := by unfold Gn.free; rw [h.1, h.2.2.1]

/-- A relation that matches nodes of one graph with nodes of another. -/
structure Match (G H : List Gn) (R : Nat → Nat → Prop) : Prop where
  like : ∀ (a b : Nat), R a b → ∃ x y : Gn, G[a]? = some x ∧ H[b]? = some y ∧ Alike x y ∧ x.args.length = y.args.length
  kids : ∀ (a b : Nat) (x y : Gn), R a b → G[a]? = some x → H[b]? = some y → ∀ (i c d : Nat), x.args[i]? = some c → y.args[i]? = some d → R c d
  fst : ∀ (a b b' : Nat) (x : Gn), R a b → R a b' → G[a]? = some x → x.free → b' = b
  snd : ∀ (a a' b : Nat) (x : Gn), R a b → R a' b → G[a]? = some x → x.free → a' = a
/-- Two graphs are the same type. -/
def SameT (G H : List Gn) (r s : Nat) : Prop := ∃ R, R r s ∧ Match G H R

theorem SameT.symm {G H : List Gn} {r s : Nat} (h : SameT G H r s) : SameT H G s r := by
  obtain ⟨R, hr, hm⟩ := h
  refine ⟨fun a b => R b a, hr, ⟨fun a b h => ?_, fun a b x y h hx hy i c d hc hd => ?_, fun a b b' x h h' hx hf => ?_, fun a a' b x h h' hx hf => ?_⟩⟩
  · obtain ⟨x, y, h1, h2, h3, h4⟩ := hm.like b a h
    exact ⟨y, x, h2, h1, h3.symm, h4.symm⟩
  · exact hm.kids b a y x h hy hx i d c hd hc
  · obtain ⟨y, x', h1, h2, h3, _⟩ := hm.like b a h
    rw [hx] at h2
    cases h2
    exact hm.snd b b' a y h h' h1 (h3.free.2 hf)
  · obtain ⟨y, x', h1, h2, h3, _⟩ := hm.like b a h
    rw [hx] at h2
    cases h2
    exact hm.fst b a a' y h h' h1 (h3.free.2 hf)
theorem SameT.trans {G H K : List Gn} {r s t : Nat} (h : SameT G H r s) (g : SameT H K s t) : SameT G K r t := by
  obtain ⟨R, hr, hm⟩ := h
  obtain ⟨S, hs, hn⟩ := g
  refine ⟨fun a c => ∃ b, R a b ∧ S b c, ⟨s, hr, hs⟩, ⟨?_, ?_, ?_, ?_⟩⟩
  · rintro a c ⟨b, h1, h2⟩
    obtain ⟨x, y, e1, e2, e3, e4⟩ := hm.like a b h1
    obtain ⟨y', z, f1, f2, f3, f4⟩ := hn.like b c h2
    rw [e2] at f1; cases f1
    exact ⟨x, z, e1, f2, e3.trans f3, e4.trans f4⟩
  · rintro a c x z ⟨b, h1, h2⟩ hx hz i p q hp hq
    obtain ⟨x', y, e1, e2, e3, e4⟩ := hm.like a b h1
    obtain ⟨y', z', f1, f2, f3, f4⟩ := hn.like b c h2
    rw [hx] at e1; cases e1
    rw [e2] at f1; cases f1
    have hi : i < y.args.length := by rw [← e4]; exact (List.getElem?_eq_some_iff.1 hp).1
    obtain ⟨m, hm'⟩ : ∃ m, y.args[i]? = some m := ⟨_, List.getElem?_eq_getElem hi⟩
    exact ⟨m, hm.kids a b x y h1 hx e2 i p m hp hm', hn.kids b c y z h2 e2 hz i m q hm' hq⟩
  · rintro a c c' x ⟨b, h1, h2⟩ ⟨b', h1', h2'⟩ hx hf
    obtain ⟨x', y, e1, e2, e3, e4⟩ := hm.like a b h1
    rw [hx] at e1; cases e1
    have := hm.fst a b b' x h1 h1' hx hf
    subst this
    exact hn.fst b' c c' y h2 h2' e2 (e3.free.1 hf)
  · rintro a a' c x ⟨b, h1, h2⟩ ⟨b', h1', h2'⟩ hx hf
    obtain ⟨x', y, e1, e2, e3, e4⟩ := hm.like a b h1
    rw [hx] at e1; cases e1
    have := hn.snd b b' c y h2 h2' e2 (e3.free.1 hf)
    subst this
    exact hm.snd a a' b' x h1 h1' hx hf

/-- Graphs whose nodes lead to nodes, and whose nodes that look alike lead to as many. -/
structure Fine (G H : List Gn) : Prop where
  lt : ∀ (a : Nat) (x : Gn), G[a]? = some x → ∀ c ∈ x.args, c < G.length
  lt' : ∀ (b : Nat) (y : Gn), H[b]? = some y → ∀ d ∈ y.args, d < H.length
  len : ∀ (a b : Nat) (x y : Gn), G[a]? = some x → H[b]? = some y → Alike x y → x.args.length = y.args.length

theorem SameT.refl {G : List Gn} {r : Nat} (hf : Fine G G) (hr : r < G.length) : SameT G G r r := by
  refine ⟨fun a b => a = b ∧ a < G.length, ⟨rfl, hr⟩, ⟨?_, ?_, ?_, ?_⟩⟩
  · rintro a b ⟨rfl, h⟩
    exact ⟨G[a], G[a], List.getElem?_eq_getElem h, List.getElem?_eq_getElem h, .refl _, rfl⟩
  · rintro a b x y ⟨rfl, h⟩ hx hy i c d hc hd
    rw [hx] at hy; cases hy
    rw [hc] at hd; cases hd
    exact ⟨rfl, hf.lt a x hx c (List.mem_of_getElem? hc)⟩
  · rintro a b b' x ⟨rfl, _⟩ ⟨rfl, _⟩ _ _; rfl
  · rintro a a' b x ⟨rfl, _⟩ ⟨rfl, _⟩ _ _; rfl

/-- The node of either graph, those of the second behind those of the first. -/
def nodeAt (G H : List Gn) (z : Nat) : Option Gn := if z < G.length then G[z]? else H[z - G.length]?
/-- Where it leads. -/
def kidAt (G H : List Gn) (z i c : Nat) : Prop := (z < G.length ∧ ∃ x : Gn, G[z]? = some x ∧ x.args[i]? = some c) ∨ (G.length ≤ z ∧ ∃ (y : Gn) (d : Nat), H[z - G.length]? = some y ∧ y.args[i]? = some d ∧ c = G.length + d)
theorem nodeAt_l {G H : List Gn} {a : Nat} (h : a < G.length) : nodeAt G H a = G[a]? := by unfold nodeAt; rw [if_pos h]
theorem nodeAt_r {G H : List Gn} {b : Nat} : nodeAt G H (G.length + b) = H[b]? := by unfold nodeAt; rw [if_neg (by omega), Nat.add_sub_cancel_left]
theorem kidAt_l {G H : List Gn} {a i c : Nat} (h : a < G.length) : kidAt G H a i c ↔ ∃ x : Gn, G[a]? = some x ∧ x.args[i]? = some c := by
  unfold kidAt
  exact ⟨fun g => g.elim (fun g => g.2) (fun g => absurd g.1 (by omega)), fun g => .inl ⟨h, g⟩⟩
theorem kidAt_r {G H : List Gn} {b i c : Nat} : kidAt G H (G.length + b) i c ↔ ∃ (y : Gn) (d : Nat), H[b]? = some y ∧ y.args[i]? = some d ∧ c = G.length + d := by
  unfold kidAt
  rw [Nat.add_sub_cancel_left]
  exact ⟨fun g => g.elim (fun g => absurd g.1 (by omega)) (fun g => g.2), fun g => .inr ⟨by omega, g⟩⟩

/-- A relation that is one of equivalence. -/
structure Eqv (E : Nat → Nat → Prop) : Prop where
  refl : ∀ z, E z z
  symm : ∀ z y, E z y → E y z
  trans : ∀ z y x, E z y → E y x → E z x

/-- What is known while pairs are matched: sn were looked at, mt were put together, todo are still to be looked at. -/
structure Inv (G H : List Gn) (r s : Nat) (sn mt todo : List (Nat × Nat)) (rt : Nat → Nat) : Prop where
  rng : ∀ p, p ∈ sn ∨ p ∈ todo → p.1 < G.length ∧ p.2 < H.length
  root : (r, s) ∈ sn ∨ (r, s) ∈ todo
  sub : ∀ p ∈ mt, p ∈ sn
  uni : ∀ p ∈ sn, rt p.1 = rt (G.length + p.2)
  gen : ∀ z y, z < G.length + H.length → y < G.length + H.length → rt z = rt y → ∀ E, Eqv E → (∀ p ∈ mt, E p.1 (G.length + p.2)) → E z y
  kids : ∀ p ∈ mt, ∃ x y : Gn, G[p.1]? = some x ∧ H[p.2]? = some y ∧ Alike x y ∧ ∀ (i c d : Nat), x.args[i]? = some c → y.args[i]? = some d → (c, d) ∈ sn ∨ (c, d) ∈ todo
  one : ∀ (z : Nat) (x : Gn), z < G.length + H.length → nodeAt G H z = some x → x.free → ∀ y y', y < G.length + H.length → y' < G.length + H.length → rt y = rt z → rt y' = rt z → y ≠ z → y' ≠ z → y = y'

variable {G H : List Gn} {r s : Nat} {sn mt todo : List (Nat × Nat)} {rt : Nat → Nat}

theorem inv_start (hr : r < G.length) (hs : s < H.length) : Inv G H r s [] [] [(r, s)] (fun z => z) := by
  refine ⟨fun p hp => ?_, .inr (by simp), fun _ h => (by cases h), fun _ h => (by cases h), fun z y _ _ h E hE _ => ?_, fun _ h => (by cases h), fun z x _ _ _ y y' _ _ h _ hn _ => absurd h hn⟩
  · rcases hp with hp | hp
    · cases hp
    · rw [List.mem_singleton.1 hp]; exact ⟨hr, hs⟩
  · rw [show z = y from h]; exact hE.refl _
/-- A pair that was looked at. -/
theorem Inv.seen {p : Nat × Nat} (h : Inv G H r s sn mt (todo ++ [p]) rt) (hp : p ∈ sn) : Inv G H r s sn mt todo rt := by
  have key : ∀ q, q ∈ sn ∨ q ∈ todo ++ [p] → q ∈ sn ∨ q ∈ todo := fun q hq => by
    rcases hq with hq | hq
    · exact .inl hq
    · rcases List.mem_append.1 hq with hq | hq
      · exact .inr hq
      · rw [List.mem_singleton.1 hq]; exact .inl hp
  refine ⟨fun q hq => h.rng q (hq.imp id fun a => List.mem_append.2 (.inl a)), key _ h.root, h.sub, h.uni, h.gen, fun q hq => ?_, h.one⟩
  obtain ⟨x, y, h1, h2, h3, h4⟩ := h.kids q hq
  exact ⟨x, y, h1, h2, h3, fun i c d hc hd => key _ (h4 i c d hc hd)⟩
/-- A pair whose nodes are in one class already. -/
theorem Inv.skip {p : Nat × Nat} (h : Inv G H r s sn mt (todo ++ [p]) rt) (hp : rt p.1 = rt (G.length + p.2)) : Inv G H r s (p :: sn) mt todo rt := by
  have key : ∀ q, q ∈ sn ∨ q ∈ todo ++ [p] → q ∈ p :: sn ∨ q ∈ todo := fun q hq => by
    rcases hq with hq | hq
    · exact .inl (List.mem_cons_of_mem _ hq)
    · rcases List.mem_append.1 hq with hq | hq
      · exact .inr hq
      · rw [List.mem_singleton.1 hq]; exact .inl List.mem_cons_self
  refine ⟨fun q hq => ?_, key _ h.root, fun q hq => List.mem_cons_of_mem _ (h.sub q hq), fun q hq => ?_, h.gen, fun q hq => ?_, h.one⟩
  · refine h.rng q ?_
    rcases hq with hq | hq
    · rcases List.mem_cons.1 hq with rfl | hq
      · exact .inr (by simp)
      · exact .inl hq
    · exact .inr (List.mem_append.2 (.inl hq))
  · rcases List.mem_cons.1 hq with rfl | hq
    · exact hp
    · exact h.uni q hq
  · obtain ⟨x, y, h1, h2, h3, h4⟩ := h.kids q hq
    exact ⟨x, y, h1, h2, h3, fun i c d hc hd => key _ (h4 i c d hc hd)⟩

/-- Two classes made one, whichever's root stays. -/
def Joined (rt rt' : Nat → Nat) (u v : Nat) : Prop := ∀ z y, rt' z = rt' y ↔ (rt z = rt y ∨ (rt z = rt u ∧ rt y = rt v) ∨ (rt z = rt v ∧ rt y = rt u))
theorem joined_join (rt : Nat → Nat) (u v : Nat) : Joined rt (join rt (rt u) (rt v)) u v := by
  intro z y
  unfold join
  split <;> split <;> omega
theorem Joined.swap {rt rt' : Nat → Nat} {u v : Nat} (h : Joined rt rt' u v) : Joined rt rt' v u := by
  intro z y
  rw [h z y]
  constructor <;> (rintro (h | h | h) <;> simp [h])

/-- A pair whose nodes look alike, put together. -/
theorem Inv.put {p : Nat × Nat} {x y : Gn} {rt' : Nat → Nat} (h : Inv G H r s sn mt (todo ++ [p]) rt) (hx : G[p.1]? = some x) (hy : H[p.2]? = some y) (hl : Alike x y) (hF : Fine G H)
    (hj : Joined rt rt' p.1 (G.length + p.2)) (hfree : x.free → (∀ z, z < G.length + H.length → rt z = rt p.1 → z = p.1) ∧ ∀ z, z < G.length + H.length → rt z = rt (G.length + p.2) → z = G.length + p.2)
    {more : List (Nat × Nat)} (hm : more = x.args.zip y.args) : Inv G H r s (p :: sn) (p :: mt) (todo ++ more) rt' := by
  have hp := h.rng p (.inr (by simp))
  have key : ∀ q, q ∈ sn ∨ q ∈ todo ++ [p] → q ∈ p :: sn ∨ q ∈ todo ++ more := fun q hq => by
    rcases hq with hq | hq
    · exact .inl (List.mem_cons_of_mem _ hq)
    · rcases List.mem_append.1 hq with hq | hq
      · exact .inr (List.mem_append.2 (.inl hq))
      · rw [List.mem_singleton.1 hq]; exact .inl List.mem_cons_self
  have like : ∀ z y, rt z = rt y → rt' z = rt' y := fun z y e => (hj z y).2 (.inl e)
  -- nodes of one class look alike
  have gl : ∀ z y, z < G.length + H.length → y < G.length + H.length → rt z = rt y → ∀ E, Eqv E → (∀ q ∈ p :: mt, E q.1 (G.length + q.2)) → E z y := fun z y hz hy e E hE hq =>
    h.gen z y hz hy e E hE fun q hq' => hq q (List.mem_cons_of_mem _ hq')
  refine ⟨fun q hq => ?_, key _ h.root, fun q hq => ?_, fun q hq => ?_, fun z y' hz hy' e E hE hq => ?_, fun q hq => ?_, fun z x' hz hx' hf y1 y2 h1 h2 k1 k2 n1 n2 => ?_⟩
  · rcases hq with hq | hq
    · rcases List.mem_cons.1 hq with rfl | hq
      · exact hp
      · exact h.rng q (.inl hq)
    · rcases List.mem_append.1 hq with hq | hq
      · exact h.rng q (.inr (List.mem_append.2 (.inl hq)))
      · rw [hm] at hq
        have := List.of_mem_zip hq
        exact ⟨hF.lt _ x hx _ this.1, hF.lt' _ y hy _ this.2⟩
  · rcases List.mem_cons.1 hq with rfl | hq
    · exact List.mem_cons_self
    · exact List.mem_cons_of_mem _ (h.sub q hq)
  · rcases List.mem_cons.1 hq with rfl | hq
    · exact (hj _ _).2 (.inr (.inl ⟨rfl, rfl⟩))
    · exact like _ _ (h.uni q hq)
  · have hu : p.1 < G.length + H.length := by omega
    have hv : G.length + p.2 < G.length + H.length := by omega
    have hE1 : E p.1 (G.length + p.2) := hq p List.mem_cons_self
    rcases (hj z y').1 e with e | ⟨e1, e2⟩ | ⟨e1, e2⟩
    · exact gl z y' hz hy' e E hE hq
    · exact hE.trans _ _ _ (gl z _ hz hu e1 E hE hq) (hE.trans _ _ _ hE1 (hE.symm _ _ (gl y' _ hy' hv e2 E hE hq)))
    · exact hE.trans _ _ _ (gl z _ hz hv e1 E hE hq) (hE.trans _ _ _ (hE.symm _ _ hE1) (hE.symm _ _ (gl y' _ hy' hu e2 E hE hq)))
  · rcases List.mem_cons.1 hq with rfl | hq
    · refine ⟨x, y, hx, hy, hl, fun i c d hc hd => .inr (List.mem_append.2 (.inr ?_))⟩
      rw [hm]
      exact List.mem_of_getElem? (i := i) (by rw [List.getElem?_zip_eq_some]; exact ⟨hc, hd⟩)
    · obtain ⟨x, y, h1, h2, h3, h4⟩ := h.kids q hq
      exact ⟨x, y, h1, h2, h3, fun i c d hc hd => key _ (h4 i c d hc hd)⟩
  · -- a free node's class
    by_cases hzu : rt z = rt p.1 ∨ rt z = rt (G.length + p.2)
    · -- z is in the class that was made: z is free, so p's nodes are
      have hu : p.1 < G.length + H.length := by omega
      have hv : G.length + p.2 < G.length + H.length := by omega
      -- nodes of one class are free together
      let E : Nat → Nat → Prop := fun a b => (∀ x, nodeAt G H a = some x → x.free → ∀ y, nodeAt G H b = some y → y.free) ∧ (∀ x, nodeAt G H b = some x → x.free → ∀ y, nodeAt G H a = some y → y.free) ∧ ((∃ x, nodeAt G H a = some x) ↔ ∃ y, nodeAt G H b = some y)
      have hE : Eqv E := by
        refine ⟨fun z => ⟨fun x h f y h' => ?_, fun x h f y h' => ?_, Iff.rfl⟩, fun a b h => ⟨h.2.1, h.1, h.2.2.symm⟩, fun a b c h g => ⟨fun x hx f y hy => ?_, fun x hx f y hy => ?_, h.2.2.trans g.2.2⟩⟩
        · rw [h] at h'; cases h'; exact f
        · rw [h] at h'; cases h'; exact f
        · obtain ⟨m, hm⟩ := h.2.2.1 ⟨x, hx⟩
          exact g.1 m hm (h.1 x hx f m hm) y hy
        · obtain ⟨m, hm⟩ := g.2.2.2 ⟨x, hx⟩
          exact h.2.1 m hm (g.2.1 x hx f m hm) y hy
      have hEp : ∀ q ∈ mt, E q.1 (G.length + q.2) := fun q hq => by
        obtain ⟨x, y, h1, h2, h3, _⟩ := h.kids q hq
        have hr := h.rng q (.inl (h.sub q hq))
        have e1 : nodeAt G H q.1 = some x := by rw [nodeAt_l hr.1]; exact h1
        have e2 : nodeAt G H (G.length + q.2) = some y := by rw [nodeAt_r]; exact h2
        refine ⟨fun a ha f b hb => ?_, fun a ha f b hb => ?_, ⟨fun _ => ⟨y, e2⟩, fun _ => ⟨x, e1⟩⟩⟩
        · rw [e1] at ha; cases ha; rw [e2] at hb; cases hb; exact h3.free.1 f
        · rw [e2] at ha; cases ha; rw [e1] at hb; cases hb; exact h3.free.2 f
      have e1 : nodeAt G H p.1 = some x := by rw [nodeAt_l hp.1]; exact hx
      have e2 : nodeAt G H (G.length + p.2) = some y := by rw [nodeAt_r]; exact hy
      have hxf : x.free := by
        rcases hzu with hzu | hzu
        · exact (h.gen z _ hz hu hzu E hE hEp).1 x' hx' hf x e1
        · exact hl.free.2 ((h.gen z _ hz hv hzu E hE hEp).1 x' hx' hf y e2)
      obtain ⟨f1, f2⟩ := hfree hxf
      have cls : ∀ w, w < G.length + H.length → rt' w = rt' z → w = p.1 ∨ w = G.length + p.2 := fun w hw e => by
        rcases (hj w z).1 e with e | ⟨e, _⟩ | ⟨e, _⟩
        · rcases hzu with hzu | hzu
          · exact .inl (f1 w hw (e.trans hzu))
          · exact .inr (f2 w hw (e.trans hzu))
        · exact .inl (f1 w hw e)
        · exact .inr (f2 w hw e)
      have c0 := cls z hz rfl
      have c1 := cls y1 h1 k1
      have c2 := cls y2 h2 k2
      omega
    · have back : ∀ w, rt' w = rt' z → rt w = rt z := fun w e => by
        rcases (hj w z).1 e with e | ⟨_, e⟩ | ⟨_, e⟩
        · exact e
        · exact absurd (.inr e) hzu
        · exact absurd (.inl e) hzu
      exact h.one z x' hz hx' hf y1 y2 h1 h2 (back y1 k1) (back y2 k2) n1 n2

/-- When nothing is left to be looked at, the graphs are the same type. -/
theorem Inv.done (h : Inv G H r s sn mt [] rt) (hF : Fine G H) : SameT G H r s := by
  have hroot : (r, s) ∈ sn := h.root.elim id fun h => by cases h
  have hrs := h.rng _ (.inl hroot)
  let E : Nat → Nat → Prop := fun a b => (a < G.length + H.length ↔ b < G.length + H.length) ∧ (a < G.length + H.length → ∃ x y, nodeAt G H a = some x ∧ nodeAt G H b = some y ∧ Alike x y ∧ x.args.length = y.args.length ∧ ∀ i c d, kidAt G H a i c → kidAt G H b i d → rt c = rt d)
  have some_ : ∀ z, z < G.length + H.length → ∃ x, nodeAt G H z = some x := fun z hz => by
    unfold nodeAt
    split
    · rename_i h; exact ⟨_, List.getElem?_eq_getElem h⟩
    · exact ⟨_, List.getElem?_eq_getElem (by omega)⟩
  have kid_some : ∀ z x i, z < G.length + H.length → nodeAt G H z = some x → i < x.args.length → ∃ c, kidAt G H z i c := fun z x i hz hx hi => by
    unfold nodeAt at hx
    unfold kidAt
    split at hx
    · rename_i hl; exact ⟨_, .inl ⟨hl, x, hx, List.getElem?_eq_getElem hi⟩⟩
    · rename_i hl; exact ⟨_, .inr ⟨by omega, x, _, hx, List.getElem?_eq_getElem hi, rfl⟩⟩
  have kid_lt : ∀ z x i c, nodeAt G H z = some x → kidAt G H z i c → i < x.args.length := fun z x i c hx hk => by
    unfold nodeAt at hx
    rcases hk with ⟨hl, y, h1, h2⟩ | ⟨hl, y, d, h1, h2, _⟩
    · rw [if_pos hl, h1] at hx; cases hx; exact (List.getElem?_eq_some_iff.1 h2).1
    · rw [if_neg (by omega), h1] at hx; cases hx; exact (List.getElem?_eq_some_iff.1 h2).1
  have kid_one : ∀ z i c d, kidAt G H z i c → kidAt G H z i d → c = d := fun z i c d h1 h2 => by
    rcases h1 with ⟨l1, x, a1, b1⟩ | ⟨l1, x, e, a1, b1, rfl⟩ <;> rcases h2 with ⟨l2, y, a2, b2⟩ | ⟨l2, y, f, a2, b2, rfl⟩
    · rw [a1] at a2; cases a2; rw [b1] at b2; cases b2; rfl
    · omega
    · omega
    · rw [a1] at a2; cases a2; rw [b1] at b2; cases b2; rfl
  have hE : Eqv E := by
    refine ⟨fun z => ⟨Iff.rfl, fun hz => ?_⟩, fun a b g => ⟨g.1.symm, fun hb => ?_⟩, fun a b c g k => ⟨g.1.trans k.1, fun ha => ?_⟩⟩
    · obtain ⟨x, hx⟩ := some_ z hz
      exact ⟨x, x, hx, hx, .refl x, rfl, fun i c d h1 h2 => by rw [kid_one z i c d h1 h2]⟩
    · obtain ⟨x, y, h1, h2, h3, h4, h5⟩ := g.2 (g.1.2 hb)
      exact ⟨y, x, h2, h1, h3.symm, h4.symm, fun i c d k1 k2 => (h5 i d c k2 k1).symm⟩
    · obtain ⟨x, y, h1, h2, h3, h4, h5⟩ := g.2 ha
      obtain ⟨y', z, k1, k2, k3, k4, k5⟩ := k.2 (g.1.1 ha)
      rw [h2] at k1; cases k1
      refine ⟨x, z, h1, k2, h3.trans k3, h4.trans k4, fun i p q hp hq => ?_⟩
      obtain ⟨m, hm⟩ := kid_some b y i (g.1.1 ha) h2 (by rw [← h4]; exact kid_lt a x i p h1 hp)
      exact (h5 i p m hp hm).trans (k5 i m q hm hq)
  have hEp : ∀ q ∈ mt, E q.1 (G.length + q.2) := fun q hq => by
    obtain ⟨x, y, h1, h2, h3, h4⟩ := h.kids q hq
    have hr := h.rng q (.inl (h.sub q hq))
    refine ⟨⟨fun _ => by omega, fun _ => by omega⟩, fun _ => ⟨x, y, by rw [nodeAt_l hr.1]; exact h1, by rw [nodeAt_r]; exact h2, h3, hF.len _ _ x y h1 h2 h3, fun i c d hc hd => ?_⟩⟩
    obtain ⟨x', e1, e2⟩ := (kidAt_l hr.1).1 hc
    obtain ⟨y', d', f1, f2, rfl⟩ := kidAt_r.1 hd
    rw [h1] at e1; cases e1
    rw [h2] at f1; cases f1
    have hm := (h4 i c d' e2 f2).elim id fun h => by cases h
    exact h.uni _ hm
  have main : ∀ z y, z < G.length + H.length → y < G.length + H.length → rt z = rt y → ∃ x x', nodeAt G H z = some x ∧ nodeAt G H y = some x' ∧ Alike x x' ∧ x.args.length = x'.args.length ∧ ∀ i c d, kidAt G H z i c → kidAt G H y i d → rt c = rt d := fun z y hz hy e => (h.gen z y hz hy e E hE hEp).2 hz
  refine ⟨fun a b => a < G.length ∧ b < H.length ∧ rt a = rt (G.length + b), ⟨hrs.1, hrs.2, h.uni _ hroot⟩, ⟨?_, ?_, ?_, ?_⟩⟩
  · rintro a b ⟨ha, hb, e⟩
    obtain ⟨x, y, h1, h2, h3, h4, _⟩ := main a _ (by omega) (by omega) e
    rw [nodeAt_l ha] at h1
    rw [nodeAt_r] at h2
    exact ⟨x, y, h1, h2, h3, h4⟩
  · rintro a b x y ⟨ha, hb, e⟩ hx hy i c d hc hd
    obtain ⟨x', y', h1, h2, h3, h4, h5⟩ := main a _ (by omega) (by omega) e
    exact ⟨hF.lt a x hx c (List.mem_of_getElem? hc), hF.lt' b y hy d (List.mem_of_getElem? hd), h5 i c _ ((kidAt_l ha).2 ⟨x, hx, hc⟩) (kidAt_r.2 ⟨y, d, hy, hd, rfl⟩)⟩
  · rintro a b b' x ⟨ha, hb, e⟩ ⟨_, hb', e'⟩ hx hf
    have := h.one a x (by omega) (by rw [nodeAt_l ha]; exact hx) hf (G.length + b) (G.length + b') (by omega) (by omega) e.symm e'.symm (by omega) (by omega)
    omega
  · rintro a a' b x ⟨ha, hb, e⟩ ⟨ha', _, e'⟩ hx hf
    obtain ⟨x', y, h1, h2, h3, _⟩ := main a _ (by omega) (by omega) e
    rw [nodeAt_l ha, hx] at h1; cases h1
    exact h.one (G.length + b) y (by omega) h2 (h3.free.1 hf) a' a (by omega) (by omega) e' e (by omega) (by omega)

/-- Of graphs that are the same type all that is looked at is matched. -/
def Within (R : Nat → Nat → Prop) (sn mt todo : List (Nat × Nat)) : Prop := (∀ p, p ∈ sn ∨ p ∈ todo → R p.1 p.2) ∧ ∀ p ∈ mt, p ∈ sn
/-- A free node's class, of graphs that are the same type: both nodes of the pair alone. -/
theorem Inv.alone {R : Nat → Nat → Prop} {p : Nat × Nat} {x : Gn} (h : Inv G H r s sn mt (todo ++ [p]) rt) (hR : Match G H R) (hW : ∀ q, q ∈ sn ∨ q ∈ todo ++ [p] → R q.1 q.2) (hx : G[p.1]? = some x) (hf : x.free) (hne : rt p.1 ≠ rt (G.length + p.2)) :
    (∀ z, z < G.length + H.length → rt z = rt p.1 → z = p.1) ∧ ∀ z, z < G.length + H.length → rt z = rt (G.length + p.2) → z = G.length + p.2 := by
  have hp := h.rng p (.inr (by simp))
  have hRp := hW p (.inr (by simp))
  let E : Nat → Nat → Prop := fun a b => (a = p.1 ∨ a = G.length + p.2) ↔ (b = p.1 ∨ b = G.length + p.2)
  have hE : Eqv E := ⟨fun _ => Iff.rfl, fun _ _ h => h.symm, fun _ _ _ h g => h.trans g⟩
  have hEp : ∀ q ∈ mt, E q.1 (G.length + q.2) := fun q hq => by
    have hr := h.rng q (.inl (h.sub q hq))
    have hRq := hW q (.inl (h.sub q hq))
    show (q.1 = p.1 ∨ q.1 = G.length + p.2) ↔ (G.length + q.2 = p.1 ∨ G.length + q.2 = G.length + p.2)
    constructor
    · rintro (e | e)
      · rw [e] at hRq
        have := hR.fst p.1 p.2 q.2 x hRp hRq hx hf
        omega
      · omega
    · rintro (e | e)
      · omega
      · have e2 : q.2 = p.2 := by omega
        rw [e2] at hRq
        exact .inl (hR.snd p.1 q.1 p.2 x hRp hRq hx hf)
  constructor
  · intro z hz e
    have := (h.gen z p.1 hz (by omega) e E hE hEp).2 (.inl rfl)
    rcases this with e' | e'
    · exact e'
    · rw [e'] at e; exact absurd e.symm hne
  · intro z hz e
    have := (h.gen z (G.length + p.2) hz (by omega) e E hE hEp).2 (.inr rfl)
    rcases this with e' | e'
    · rw [e'] at e; exact absurd e hne
    · exact e'
end Gu
