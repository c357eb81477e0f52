/- A list put behind a row of one's own, and the trees that lie in it; tree.Same at two expressions as values. -/
import Derived.Test.YtoopndgdaiblpaaDoorNdEq
import Derived.Test.YtoopndgdaiblpaaDoorOfA
import Derived.Maps.AppendAt
import Derived.Laws.AppendOwnNone
import Derived.Deep.Slices
namespace Go.Proofs.YtoopndgdaiblpaaDoor
open Go.ChangeShapes Go.WideShapes Go.ChangeAt Go.RowKit
open Go.Deep (choose_lt)

theorem wpList_append_sl {P : Program} {w : World} {ops : Array Oper} {rest : List Oper} {o : Oper} {a : Act} {Q : Exit → Act → World → Prop} (hgd : o.guard = none) (s x : Operand) (t : TypeId)
    (ho : o.op = .call { callee := .builtin .append, args := #[s, x], argTypes := #[t, t] })
    (base : Nat) (e : TypeId) (i : TypeInfo) (z : Value) (size bytes : Nat) (ht : P.underlying t = some (.slice e)) (hi : P.info? e = some i) (hz : i.zero = some z)
    (hsize : i.size = size) (hby : i.bytes = bytes) (hzs : z.cells.size = size) (hsz : 0 < size)
    (v : Value) (n : Nat) (xs : List Value) (hs : a.eval s = v) (hown : w.ownsRow base e size v n xs)
    (S : Nat → Prop) (vx : Value) (m g og : Nat) (hx : a.eval x = vx) (hsl : Sl S vx m g og) (news : List Value) (hl : news.length = m * size) (hnews : ∀ j u, news[j]? = some u → w.cell? ⟨g, og + j, none⟩ = some u) (h1 : ∀ u ∈ news, u.oneCell' = true)
    (h63 : n + m ≤ maxLen) (hbytes : (n + m) * bytes ≤ 140737488355328) (hbase : base ≤ w.heap.size)
    (h : ∀ v' w', w'.ownsRow base e size v' (n + m) (xs ++ news) → w.grownBy w' v.ownBlock → (v'.ownBlock = v.ownBlock ∨ v'.ownBlock = some w.heap.size) → wpList P ops Q rest (a.put o.dst v') w') : wpList P ops Q (o :: rest) a w := by
  rcases hsl with ⟨rfl, rfl⟩ | ⟨cap, rfl, _, _, _⟩
  · have hn : news = [] := List.eq_nil_of_length_eq_zero (by simpa using hl)
    subst hn
    exact wpList_append_own_none hgd s x t ho base e i size ht hi v n xs hs hown hx (h v w (by simpa using hown) (World.grownBy.refl w _) (.inl rfl))
  · refine wpList_append_own_at w hgd s x t ho base e i z size bytes ht hi hz hsize hby hzs hsz v n xs hs hown ⟨g, og, none⟩ m cap news hx hl (fun j u hj => ?_) h1 h63 hbytes hbase (fun v' w' a b _ c => h v' w' a b c)
    have hadd : (⟨g, og, none⟩ : Addr).add j = ⟨g, og + j, none⟩ := by unfold Addr.add; split <;> simp_all
    rw [hadd]; exact hnews j u hj

/-- The cells of a row, as a list. -/
theorem row_news {W : World} {g o k : Nat} (h : ∀ j, j < k → ∃ u, W.cell? ⟨g, o + j, none⟩ = some u ∧ u.oneCell' = true) :
    ∃ news : List Value, news.length = k ∧ (∀ j u, news[j]? = some u → W.cell? ⟨g, o + j, none⟩ = some u) ∧ (∀ u ∈ news, u.oneCell' = true) ∧ (∀ j v, j < k → W.cell? ⟨g, o + j, none⟩ = some v → news[j]? = some v) := by
  obtain ⟨f, hf⟩ := choose_lt h
  refine ⟨(List.range k).map f, by simp, fun j u hj => ?_, fun u hu => ?_, fun j v hj hv => ?_⟩
  · obtain ⟨hlt, e⟩ := List.getElem?_eq_some_iff.1 hj
    simp only [List.length_map, List.length_range] at hlt
    rw [List.getElem_map, List.getElem_range] at e
    rw [← e]; exact (hf j hlt).1
  · obtain ⟨j, hj, rfl⟩ := List.mem_map.1 hu
    exact (hf j (List.mem_range.1 hj)).2
  · have := (hf j hj).1
    rw [hv] at this
    simp only [Option.some.injEq] at this
    simp [hj, this]

theorem TyAt.cells {W : World} {S : Nat → Prop} {b o : Nat} {t : Ty} (h : TyAt W S b o t) : ∀ j, j < 5 → ∃ u, W.cell? ⟨b, o + j, none⟩ = some u ∧ u.oneCell' = true := by
  obtain ⟨hb, h0, h1, h2, h3, h4, ha, hl, hs, hls⟩ := h
  obtain ⟨x, c, rfl, _⟩ := ha.shape
  obtain ⟨y, d, rfl, _⟩ := hl.shape
  intro j hj
  match j, hj with
  | 0, _ => exact ⟨_, h0, rfl⟩
  | 1, _ => exact ⟨_, h1, rfl⟩
  | 2, _ => exact ⟨_, h2, rfl⟩
  | 3, _ => exact ⟨_, h3, rfl⟩
  | 4, _ => exact ⟨_, h4, rfl⟩
theorem NdAt.cellsE {W : World} {S : Nat → Prop} {b o : Nat} {t : Nd} (h : NdAt W S b o t) (hx : isEx t = true) : ∀ j, j < 7 → ∃ u, W.cell? ⟨b, o + j, none⟩ = some u ∧ u.oneCell' = true := by
  obtain ⟨hb, h0, h1, h2, h3, h4, h5, h6, ha, hnn, htt, hm, _⟩ | _ := h
  rotate_left
  · cases hx
  obtain ⟨x, c, rfl, _⟩ := ha.shape
  obtain ⟨x, c, rfl, _⟩ := hnn.shape
  obtain ⟨x, c, rfl, _⟩ := htt.shape
  obtain ⟨x, c, rfl, _⟩ := hm.shape
  intro j hj
  match j, hj with
  | 0, _ => exact ⟨_, h0, rfl⟩
  | 1, _ => exact ⟨_, h1, rfl⟩
  | 2, _ => exact ⟨_, h2, rfl⟩
  | 3, _ => exact ⟨_, h3, rfl⟩
  | 4, _ => exact ⟨_, h4, rfl⟩
  | 5, _ => exact ⟨_, h5, rfl⟩
  | 6, _ => exact ⟨_, h6, rfl⟩
theorem NdAt.cellsM {W : World} {S : Nat → Prop} {b o : Nat} {t : Nd} (h : NdAt W S b o t) (hx : isEx t = false) : ∀ j, j < 5 → ∃ u, W.cell? ⟨b, o + j, none⟩ = some u ∧ u.oneCell' = true := by
  obtain _ | ⟨hb, h0, h1, h2, h3, h4, ha, htt, _⟩ := h
  · cases hx
  obtain ⟨x, c, rfl, _⟩ := ha.shape
  obtain ⟨x, c, rfl, _⟩ := htt.shape
  intro j hj
  match j, hj with
  | 0, _ => exact ⟨_, h0, rfl⟩
  | 1, _ => exact ⟨_, h1, rfl⟩
  | 2, _ => exact ⟨_, h2, rfl⟩
  | 3, _ => exact ⟨_, h3, rfl⟩
  | 4, _ => exact ⟨_, h4, rfl⟩

/-- A tree whose own cells are written elsewhere lies there too. -/
theorem TyAt.move {W W' : World} {S S' : Nat → Prop} {b o b' o' : Nat} {t : Ty} (h : TyAt W S b o t) (hk : Keeps S W W') (hS : ∀ b, S b → S' b) (hb' : S' b') (hc : ∀ j v, j < 5 → W.cell? ⟨b, o + j, none⟩ = some v → W'.cell? ⟨b', o' + j, none⟩ = some v) : TyAt W' S' b' o' t := by
  obtain ⟨hb, h0, h1, h2, h3, h4, ha, hl, hs, hls⟩ := h
  exact .mk hb' (hc 0 _ (by omega) h0) (hc 1 _ (by omega) h1) (hc 2 _ (by omega) h2) (hc 3 _ (by omega) h3) (hc 4 _ (by omega) h4) (ha.mono hS) (hl.mono hS) (fun i hi => (hs i hi).carry hk hS) (fun i hi => hk.cell (hl.lt (by omega)) (hls i hi))
theorem NdAt.moveE {W W' : World} {S S' : Nat → Prop} {b o b' o' : Nat} {t : Nd} (h : NdAt W S b o t) (hx : isEx t = true) (hk : Keeps S W W') (hS : ∀ b, S b → S' b) (hb' : S' b') (hc : ∀ j v, j < 7 → W.cell? ⟨b, o + j, none⟩ = some v → W'.cell? ⟨b', o' + j, none⟩ = some v) : NdAt W' S' b' o' t := by
  obtain ⟨hb, h0, h1, h2, h3, h4, h5, h6, ha, hnn, htt, hm, hs, hns, hts, hms, hax, hmx⟩ | _ := h
  rotate_left
  · cases hx
  exact .ex hb' (hc 0 _ (by omega) h0) (hc 1 _ (by omega) h1) (hc 2 _ (by omega) h2) (hc 3 _ (by omega) h3) (hc 4 _ (by omega) h4) (hc 5 _ (by omega) h5) (hc 6 _ (by omega) h6) (ha.mono hS) (hnn.mono hS) (htt.mono hS) (hm.mono hS) (fun i hi => (hs i hi).carry hk hS) (fun i hi => hk.cell (hnn.lt (by omega)) (hns i hi)) (fun i hi => (hts i hi).carry hk hS) (fun i hi => (hms i hi).carry hk hS) hax hmx
theorem NdAt.moveM {W W' : World} {S S' : Nat → Prop} {b o b' o' : Nat} {t : Nd} (h : NdAt W S b o t) (hx : isEx t = false) (hk : Keeps S W W') (hS : ∀ b, S b → S' b) (hb' : S' b') (hc : ∀ j v, j < 5 → W.cell? ⟨b, o + j, none⟩ = some v → W'.cell? ⟨b', o' + j, none⟩ = some v) : NdAt W' S' b' o' t := by
  obtain _ | ⟨hb, h0, h1, h2, h3, h4, ha, htt, hs, hts, hax⟩ := h
  · cases hx
  exact .me hb' (hc 0 _ (by omega) h0) (hc 1 _ (by omega) h1) (hc 2 _ (by omega) h2) (hc 3 _ (by omega) h3) (hc 4 _ (by omega) h4) (ha.mono hS) (htt.mono hS) (fun i hi => (hs i hi).carry hk hS) (fun i hi => (hts i hi).carry hk hS) hax

/-- Cells of a row, element by element. -/
theorem row_cells {W : World} {g o n z : Nat} (hz : 0 < z) (h : ∀ i, i < n → ∀ j, j < z → ∃ u, W.cell? ⟨g, o + i * z + j, none⟩ = some u ∧ u.oneCell' = true) : ∀ j, j < n * z → ∃ u, W.cell? ⟨g, o + j, none⟩ = some u ∧ u.oneCell' = true := fun j hj => by
  have h1 : j / z < n := (Nat.div_lt_iff_lt_mul hz).2 hj
  have h2 := h (j / z) h1 (j % z) (Nat.mod_lt _ hz)
  rw [Nat.add_assoc, Nat.div_add_mod' j z] at h2
  exact h2

theorem sameNd_v (S : Nat → Prop) (k k' : Int) (s s' : ByteArray) (n n' : Int) (va vn vt vm va' vn' vt' vm' : Value) (w : World) (t u : Nd) (hsz : ndSize t ≤ 900000) (hfine : TyFine t) (hS : ∀ b, S b → b < w.heap.size)
    (ht : ExV w S [.int .i64 k, .string s, .int .i64 n, va, vn, vt, vm] t) (hu : ExV w S [.int .i64 k', .string s', .int .i64 n', va', vn', vt', vm'] u) :
    Calls Tryd.prog 12 #[.agg #[.int .i64 k, .string s, .int .i64 n, va, vn, vt, vm], .agg #[.int .i64 k', .string s', .int .i64 n', va', vn', vt', vm']] w (ndGives w t u) := by
  have K : Keeps S w ((w.alloc (.cells #[.int .i64 k, .string s, .int .i64 n, va, vn, vt, vm] 33)).alloc (.cells #[.int .i64 k', .string s', .int .i64 n', va', vn', vt', vm'] 33)) := fun b hb => by
    have := hS b hb
    rw [heap_old (by simp; omega), heap_old this]
  have xt : isEx t = true := by obtain ⟨_, _, _, _, _, _, _, _, _, _, _, _, _, _, _, _, _, _, _, _, rfl, _⟩ := ht; rfl
  have xu : isEx u = true := by obtain ⟨_, _, _, _, _, _, _, _, _, _, _, _, _, _, _, _, _, _, _, _, rfl, _⟩ := hu; rfl
  refine sameNd_any k k' s s' n n' va vn vt vm va' vn' vt' vm' w t u hsz hfine xt xu ((ht.carry K fun b hb => ?_).at_ ?_ fun j x hj => ?_) ((hu.carry K fun b hb => ?_).at_ ?_ fun j x hj => ?_)
  · have := hS b hb; omega
  · omega
  · rw [Nat.zero_add]
    refine cell_block (cs := #[.int .i64 k, .string s, .int .i64 n, va, vn, vt, vm]) (T := 33) ((heap_old (by simp)).trans (heap_last rfl)) ?_
    simpa using hj
  · have := hS b hb; omega
  · omega
  · rw [Nat.zero_add]
    refine cell_block (cs := #[.int .i64 k', .string s', .int .i64 n', va', vn', vt', vm']) (T := 33) (heap_last (by simp)) ?_
    simpa using hj
end Go.Proofs.YtoopndgdaiblpaaDoor
