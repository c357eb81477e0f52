/- The parts of a tree as tree.parts goes through them: the list of what is still to be looked at. -/
import Derived.Test.YtoopndgdaiblpaaDoorOfs
import Derived.Deep.Cut
import Derived.Deep.RegionWith
namespace Go.Proofs.YtoopndgdaiblpaaDoor
open Go.ChangeShapes Go.WideShapes Go.ChangeAt Go.RowKit

/-- A part that is still to be looked at: where it lies, how deep it stands, what it is. -/
structure It where
  b : Nat
  o : Nat
  d : Nat
  t : Nd

def pcell (x : It) : List Value := if isEx x.t = true then [.pointer (some ⟨x.b, x.o, none⟩), .pointer none, .int .i64 x.d] else [.pointer none, .pointer (some ⟨x.b, x.o, none⟩), .int .i64 x.d]
def pcells (l : List It) : List Value := (l.map pcell).flatten
theorem pcells_append (l m : List It) : pcells (l ++ m) = pcells l ++ pcells m := by simp [pcells]
theorem pcell_length (x : It) : (pcell x).length = 3 := by unfold pcell; split <;> rfl
theorem pcells_length (l : List It) : (pcells l).length = 3 * l.length := by
  induction l with
  | nil => rfl
  | cons a r ih =>
    have : pcells (a :: r) = pcell a ++ pcells r := rfl
    rw [this, List.length_append, ih, pcell_length, List.length_cons]; omega

/-- Parts that lie in a row, each so many cells behind the one ahead. -/
def row (z g : Nat) : Nat → Nat → List Nd → List It
  | _, _, [] => []
  | o, d, t :: r => ⟨g, o, d, t⟩ :: row z g (o + z) d r
theorem row_snoc (z g : Nat) : ∀ (o d : Nat) (l : List Nd) (t : Nd), row z g o d (l ++ [t]) = row z g o d l ++ [⟨g, o + l.length * z, d, t⟩]
  | o, d, [], t => by simp [row]
  | o, d, a :: r, t => by
    rw [List.cons_append, row, row, row_snoc z g (o + z) d r t, List.length_cons, List.cons_append]
    rw [show o + z + r.length * z = o + (r.length + 1) * z by rw [Nat.add_mul, Nat.one_mul]; omega]
theorem row_length (z g : Nat) : ∀ (o d : Nat) (l : List Nd), (row z g o d l).length = l.length
  | _, _, [] => rfl
  | o, d, _ :: r => by rw [row, List.length_cons, List.length_cons, row_length z g (o + z) d r]

/-- What a part is made of, in the order in which it is put on the list. -/
def kids (d : Nat) : Nd → List (Nd × Nat)
  | .ex _ _ _ _ _ args mems => mems.map (fun t => (t, d)) ++ args.map (fun t => (t, d))
  | .me _ _ _ _ args => args.map (fun t => (t, d))
theorem row_map (z g : Nat) : ∀ (o d : Nat) (l : List Nd), (row z g o d l).map (fun x => (x.t, x.d)) = l.map fun t => (t, d)
  | _, _, [] => rfl
  | o, d, _ :: r => by rw [row, List.map_cons, List.map_cons, row_map z g (o + z) d r]
theorem row_mem (z g : Nat) : ∀ (o d : Nat) (l : List Nd) (x : It), x ∈ row z g o d l → ∃ i, ∃ h : i < l.length, x = ⟨g, o + i * z, d, l[i]⟩
  | _, _, [], _, h => by cases h
  | o, d, t :: r, x, h => by
    rw [row] at h
    rcases List.mem_cons.1 h with rfl | h
    · exact ⟨0, by simp, by simp⟩
    · obtain ⟨i, hi, rfl⟩ := row_mem z g (o + z) d r x h
      exact ⟨i + 1, by simpa using hi, by simp [Nat.add_mul]; omega⟩
theorem ndSum_le : ∀ (l : List Nd), l.length ≤ ndSum l
  | [] => Nat.le_refl _
  | t :: r => by
    have := ndSum_le r
    have h1 : 1 ≤ ndSize t := by cases t <;> simp [ndSize_ex, ndSize_me] <;> omega
    simp only [ndSum, List.map_cons, List.sum_cons, List.length_cons] at this ⊢
    omega

theorem partInfo : (Tryd.prog.info? 76).map (fun i => (i.zero, i.size, i.bytes)) = some (some (.agg #[.pointer none, .pointer none, .int .i64 0]), 3, 24) := by kernel_rfl

set_option maxRecDepth 100000 in
/-- tree.exprs: expressions put behind a list. -/
theorem exprs_any (B : Nat) (W : World) (v va : Value) (st : List It) (S : Nat → Prop) (args : List Nd) (ga oa d : Nat) (hB : B ≤ W.heap.size) (ho : W.ownsRow B 76 3 v st.length (pcells st)) (hs : Sl S va args.length ga oa) (hax : ∀ x ∈ args, isEx x = true)
    (hn : st.length + args.length ≤ 2000000) :
    Calls Tryd.prog 50 #[v, va, .int .i64 d] W fun e W' => ∃ v', e = .returned v' ∧ W'.ownsRow B 76 3 v' (st.length + args.length) (pcells (st ++ row 7 ga oa d args)) ∧ Below B W W' := by
  obtain ⟨i0, hi, hz0, hz1, hz2⟩ := info_parts partInfo
  obtain ⟨n, hnn⟩ : ∃ n, args.length = n := ⟨_, rfl⟩
  obtain ⟨xa, ca, rfl, hsh⟩ := hs.shape
  have HAX := Lib.hid hax
  have HO := Lib.hid ho
  have HSH := Lib.hid hsh
  have HL := Lib.hid hnn
  rw [hnn] at hn ⊢
  clear hax ho hsh hnn hs
  go_enter Tryd.func50, Tryd.ntmps50
  go_wp2_with fail
  go_loopg [0, 10] n (fun gk v i wr => ∃ j, gk = n - j ∧ j ≤ n ∧ i = .int .i64 j ∧ wr.ownsRow B 76 3 v (st.length + j) (pcells (st ++ row 7 ga oa d (args.take j))) ∧ Below B W wr)
  case atStart =>
    exact ⟨0, rfl, Nat.zero_le _, rfl, by simpa [row] using HO.out, Below.refl _ _⟩
  case round =>
    obtain ⟨j, rfl, hj, rfl, hown, hBw⟩ := hrel
    have hbw := hBw.size
    obtain ⟨x0, c0, hv⟩ : ∃ x c, u0 = .slice x (st.length + j) c := by
      rcases hown.2 with ⟨h, h0⟩ | ⟨gx, cx, cur, h, _⟩
      · exact ⟨none, 0, by rw [h, h0]⟩
      · exact ⟨_, _, h⟩
    subst hv
    have HOWN := Lib.hid hown
    clear hown
    by_cases hlt : j < n
    · have hi' : (j : Int) < (n : Int) := by omega
      obtain ⟨rfl, hca, hcm, _⟩ := HSH.out (by have := HL.out; omega)
      have HOA := Lib.hid (HOWN.out.alloc (.cells #[.pointer (some ⟨ga, oa + j * 7, none⟩), .pointer none, .int .i64 d] 76))
      have HN := Lib.hid (new_cells wr [.pointer (some ⟨ga, oa + j * 7, none⟩), .pointer none, .int .i64 d] 76)
      have H1 : Hid (∀ u ∈ ([.pointer (some ⟨ga, oa + j * 7, none⟩), .pointer none, .int .i64 d] : List Value), u.oneCell' = true) := Lib.hid fun u hu => by
        simp only [List.mem_cons, List.not_mem_nil, or_false] at hu
        rcases hu with rfl | rfl | rfl <;> rfl
      go_wp2_with (at_builtin; (refine wpList_append_own_at _ rfl (.tmp 13) (.tmp 19) _ rfl B 76 i0 _ 3 24 Tryd.underlying86 hi hz0 hz1 hz2 rfl (by decide) (.slice x0 (st.length + j) c0) (st.length + j) (pcells (st ++ row 7 ga oa d (args.take j))) rfl HOA.out ⟨wr.heap.size, 0, none⟩ 1 1 [.pointer (some ⟨ga, oa + j * 7, none⟩), .pointer none, .int .i64 d] rfl rfl HN.out H1.out (by unfold maxLen; omega) (by omega) (by simp; omega) ?_); (intro v' w5 hown5 hg5 _ hat5); (have hB6 : Below B wr w5 := ((Below.refl _ wr).alloc (by omega) _).grown hg5 (by simp; omega) (fun q hq => (HOA.out.lt q hq).1)))
      go_roundg (n - (j + 1))
      case measure => omega
      case rel =>
        refine ⟨j + 1, rfl, hlt, by first | rfl | simp, ?_, hBw.trans hB6⟩
        have hjl : j < args.length := by have := HL.out; omega
        have ht : args.take (j + 1) = args.take j ++ [args[j]] := by simp
        have hlen : (args.take j).length = j := by rw [List.length_take]; omega
        have hc : pcell ⟨ga, oa + j * 7, d, args[j]⟩ = [.pointer (some ⟨ga, oa + j * 7, none⟩), .pointer none, .int .i64 d] := by
          unfold pcell; rw [if_pos (HAX.out _ (List.getElem_mem hjl))]
        rw [ht, row_snoc, hlen, ← List.append_assoc, pcells_append]
        have e : pcells [⟨ga, oa + j * 7, d, args[j]⟩] = [.pointer (some ⟨ga, oa + j * 7, none⟩), .pointer none, .int .i64 d] := by simp [pcells, hc]
        rw [e]; exact hown5
    · have hi' : ¬ (j : Int) < (n : Int) := by omega
      have hjn : j = n := by omega
      have he : args.take j = args := by rw [hjn, ← HL.out, List.take_length]
      have HE := Lib.hid (And.intro hjn he)
      clear hjn he
      go_wp2_with fail
      go_ret
      refine ⟨_, rfl, ?_, hBw⟩
      have := HOWN.out
      rw [HE.out.2, HE.out.1] at this
      rw [HE.out.1]; exact this
set_option maxRecDepth 100000 in
/-- tree.below at a member. -/
theorem below_me (B : Nat) (W : World) (v : Value) (st : List It) (S : Nat → Prop) (b o d : Nat) (t : Nd) (hB : B ≤ W.heap.size) (ho : W.ownsRow B 76 3 v st.length (pcells st)) (hx : isEx t = false) (ht : NdAt W S b o t) (hS : ∀ k, S k → k < B)
    (hd : d ≤ 1000000) (hn : st.length + ndSize t ≤ 2000000) :
    Calls Tryd.prog 41 #[v, .agg #[.pointer none, .pointer (some ⟨b, o, none⟩), .int .i64 d]] W fun e W' => ∃ v' ks, e = .returned v' ∧ W'.ownsRow B 76 3 v' (st ++ ks).length (pcells (st ++ ks)) ∧ Below B W W' ∧ (∀ x ∈ ks, NdAt W S x.b x.o x.t) ∧ ks.map (fun x => (x.t, x.d)) = kids (d + 1) t := by
  cases t with
  | ex => cases hx
  | me k name as_ types args =>
    obtain ⟨⟩ | ⟨hb, h0, h1, h2, h3, h4, ha, htt, hs, hts, hax⟩ := ht
    rename_i va vt ga oa gt ot
    have hbl := hS _ hb
    have hbW : b < W.heap.size := by omega
    obtain ⟨xa, ca, rfl, hsh⟩ := ha.shape
    have hlen : st.length + args.length ≤ 2000000 := by
      have := ndSum_le args
      rw [ndSize_me] at hn; omega
    have HO := Lib.hid (World.ownsRow.drew (ho.alloc (.cells #[.pointer none, .pointer (some ⟨b, o, none⟩), .int .i64 d] 76)))
    have HH := Lib.hid (And.intro ha (And.intro hs hax))
    clear ho ha hs hts hax htt hsh hn
    have CE : Hid (Calls Tryd.prog 50 #[v, .slice xa args.length ca, .int .i64 (IntKind.i64.wrap ((d : Int) + 1))] (W.alloc (.cells #[.pointer none, .pointer (some ⟨b, o, none⟩), .int .i64 d] 76)).drew
        fun e W' => ∃ v', e = .returned v' ∧ W'.ownsRow B 76 3 v' (st.length + args.length) (pcells (st ++ row 7 ga oa (d + 1) args)) ∧ Below B (W.alloc (.cells #[.pointer none, .pointer (some ⟨b, o, none⟩), .int .i64 d] 76)).drew W') := Lib.hid (by
      rw [show IntKind.i64.wrap ((d : Int) + 1) = ((d + 1 : Nat) : Int) by rw [IntKind.wrap_i64]; omega]
      exact exprs_any B _ v _ st S args ga oa (d + 1) (by simp; omega) HO.out HH.out.1 HH.out.2.2 (by omega))
    go_enter Tryd.func41, Tryd.ntmps41
    go_wp2_with fail
    go_region_with (first | (go_at_call 50; with_reducible refine CE.out.mono ?_; rintro e w2 ⟨v', rfl, ho2, hB2⟩; have HO2 := Lib.hid ho2; clear ho2))
    all_goals
      go_wp2_with fail
      go_ret
      have hrl : (st ++ row 7 ga oa (d + 1) args).length = st.length + args.length := by rw [List.length_append, row_length]
      refine ⟨_, row 7 ga oa (d + 1) args, rfl, by rw [hrl]; exact HO2.out, (((Below.refl B W).alloc hB _).drew).trans hB2, ?_, row_map 7 ga oa (d + 1) args⟩
      intro x hx
      obtain ⟨i, hi, rfl⟩ := row_mem 7 ga oa (d + 1) args x hx
      exact HH.out.2.1 i hi
theorem below_box {W wr w5 : World} {row : List Value} {T : TypeId} {o : Obj} {v v' : Value} (hbox : wr.heap[W.heap.size]? = some o) (hob : v.ownBlock ≠ some W.heap.size) (hsz : W.heap.size < wr.heap.size)
    (hg : ((wr.alloc (.cells row.toArray T)).drew).grownBy w5 v.ownBlock) (hat : v'.ownBlock = v.ownBlock ∨ v'.ownBlock = some ((wr.alloc (.cells row.toArray T)).drew).heap.size) :
    w5.heap[W.heap.size]? = some o ∧ v'.ownBlock ≠ some W.heap.size ∧ W.heap.size < w5.heap.size := by
  have hs := hg.size
  simp only [World.size_drew, World.size_alloc] at hs
  refine ⟨?_, ?_, by omega⟩
  · rw [hg.block W.heap.size (by simp; omega) (fun h => hob h.symm)]
    show (World.alloc _ _).heap[_]? = _
    rw [heap_old hsz, hbox]
  · rcases hat with h | h
    · rw [h]; exact hob
    · rw [h]; intro h'; simp only [World.size_drew, World.size_alloc, Option.some.injEq] at h'; omega

set_option maxHeartbeats 1000000 in
set_option maxRecDepth 100000 in
/-- tree.below at an expression. -/
theorem below_ex (B : Nat) (W : World) (v : Value) (st : List It) (S : Nat → Prop) (b o d : Nat) (t : Nd) (hB : B ≤ W.heap.size) (ho : W.ownsRow B 76 3 v st.length (pcells st)) (hx : isEx t = true) (ht : NdAt W S b o t) (hS : ∀ k, S k → k < B)
    (hd : d ≤ 1000000) (hn : st.length + ndSize t ≤ 2000000) :
    Calls Tryd.prog 41 #[v, .agg #[.pointer (some ⟨b, o, none⟩), .pointer none, .int .i64 d]] W fun e W' => ∃ v' ks, e = .returned v' ∧ W'.ownsRow B 76 3 v' (st ++ ks).length (pcells (st ++ ks)) ∧ Below B W W' ∧ (∀ x ∈ ks, NdAt W S x.b x.o x.t) ∧ ks.map (fun x => (x.t, x.d)) = kids (d + 1) t := by
  obtain ⟨i0, hi, hz0, hz1, hz2⟩ := info_parts partInfo
  cases t with
  | me => cases hx
  | ex k s n names types args mems =>
    obtain ⟨hb, h0, h1, h2, h3, h4, h5, h6, ha, hnn, htt, hm, hs, hns, hts, hms, hax, hmx⟩ := ht
    rename_i va vn vt vm ga oa gn on gt ot gm om
    have hbl := hS _ hb
    have hbW : b < W.heap.size := by omega
    obtain ⟨xa, ca, rfl, hsh⟩ := ha.shape
    obtain ⟨xm, cm, rfl, hshm⟩ := hm.shape
    have hlen : st.length + mems.length + args.length ≤ 2000000 := by
      have e1 := ndSum_le args
      have e2 := ndSum_le mems
      rw [ndSize_ex] at hn; omega
    obtain ⟨nm, hnm⟩ : ∃ nm, mems.length = nm := ⟨_, rfl⟩
    obtain ⟨na, hna⟩ : ∃ na, args.length = na := ⟨_, rfl⟩
    have hob0 : v.ownBlock ≠ some W.heap.size := fun h => by have := (ho.lt _ h).2; omega
    have HO := Lib.hid (And.intro (ho.alloc (.cells #[.pointer (some ⟨b, o, none⟩), .pointer none, .int .i64 d] 76)) hob0)
    have HH := Lib.hid (And.intro ha (And.intro hs hax))
    have HM := Lib.hid (And.intro hms (And.intro hmx hshm))
    have HL := Lib.hid (And.intro hnm hna)
    rw [hnm, hna] at hlen
    rw [hnm] at h6
    rw [hna] at h3
    clear ho ha hs hax htt hsh hn hm hms hmx hshm hns hts hnn h0 h1 h2 h4 h5 hob0 hnm hna
    go_enter Tryd.func41, Tryd.ntmps41
    go_wp2_with fail
    go_loopg [0, 25] nm (fun gk v i wr => ∃ j, gk = nm - j ∧ j ≤ nm ∧ i = .int .i64 j ∧ wr.ownsRow B 76 3 v (st.length + j) (pcells (st ++ row 5 gm om (d + 1) (mems.take j))) ∧ Below B W wr ∧ wr.heap[W.heap.size]? = some (.cells #[.pointer (some ⟨b, o, none⟩), .pointer none, .int .i64 d] 76) ∧ v.ownBlock ≠ some W.heap.size ∧ W.heap.size < wr.heap.size)
    case atStart =>
      exact ⟨0, rfl, Nat.zero_le _, rfl, by simpa [row] using HO.out.1, (Below.refl B W).alloc hB _, heap_last rfl, HO.out.2, by simp⟩
    case round =>
      obtain ⟨j, rfl, hj, rfl, hown, hBw, hbox, hob, hsz⟩ := hrel
      have hbw := hBw.size
      obtain ⟨x0, c0, hv⟩ : ∃ x c, u0 = .slice x (st.length + j) c := by
        rcases hown.2 with ⟨h, h0⟩ | ⟨gx, cx, cur, h, _⟩
        · exact ⟨none, 0, by rw [h, h0]⟩
        · exact ⟨_, _, h⟩
      subst hv
      have q3 := (hBw.cell (p := ⟨b, o + 3, none⟩) hbl).trans h3
      have q6 := (hBw.cell (p := ⟨b, o + 6, none⟩) hbl).trans h6
      have b0 := Lib.cell_of_heap hbox 0
      have b2 := Lib.cell_of_heap hbox 2
      simp only [List.getElem?_toArray, List.getElem?_cons_zero, List.getElem?_cons_succ] at b0 b2
      have HBX := Lib.hid (And.intro hbox hob)
      have HOWN := Lib.hid hown
      clear hown hbox hob
      by_cases hlt : j < nm
      · have hi' : (j : Int) < (nm : Int) := by omega
        obtain ⟨rfl, hca, hcm, _⟩ := HM.out.2.2 (by have := HL.out.1; omega)
        have HOA := Lib.hid (World.ownsRow.drew (HOWN.out.alloc (.cells #[.pointer none, .pointer (some ⟨gm, om + j * 5, none⟩), .int .i64 ((d : Int) + 1)] 76)))
        have HN : Hid (∀ k u, ([.pointer none, .pointer (some ⟨gm, om + j * 5, none⟩), .int .i64 ((d : Int) + 1)] : List Value)[k]? = some u → ((wr.alloc (.cells #[.pointer none, .pointer (some ⟨gm, om + j * 5, none⟩), .int .i64 ((d : Int) + 1)] 76)).drew).cell? ((⟨wr.heap.size, 0, none⟩ : Addr).add k) = some u) :=
          Lib.hid (new_cells wr [.pointer none, .pointer (some ⟨gm, om + j * 5, none⟩), .int .i64 ((d : Int) + 1)] 76)
        have H1 : Hid (∀ u ∈ ([.pointer none, .pointer (some ⟨gm, om + j * 5, none⟩), .int .i64 ((d : Int) + 1)] : List Value), u.oneCell' = true) := Lib.hid fun u hu => by
          simp only [List.mem_cons, List.not_mem_nil, or_false] at hu
          rcases hu with rfl | rfl | rfl <;> rfl
        go_wp2_with fail
        have hd1 : IntKind.i64.wrap ((d : Int) + 1) = (d : Int) + 1 := by rw [IntKind.wrap_i64]; omega
        go_region_law (first | (refine step_append_lies _ rfl (.tmp 28) (.tmp 40) 86 rfl B 76 i0 _ 3 24 Tryd.underlying86 hi hz0 hz1 hz2 rfl (by decide) (.slice x0 (st.length + j) c0) (st.length + j) (pcells (st ++ row 5 gm om (d + 1) (mems.take j))) (by simp [Act.eval]) HOA.out ⟨wr.heap.size, 0, none⟩ 1 1 [.pointer none, .pointer (some ⟨gm, om + j * 5, none⟩), .int .i64 ((d : Int) + 1)] (by simp [Act.eval]) rfl HN.out H1.out (by decide) (by unfold maxLen; omega) (by omega) (by simp; omega) _ rfl ?_; intro g2 cap2 w5 hown5 hg5 hat5 hlt5))
        clear hd1
        all_goals
          go_wp2_with fail
          go_roundg (nm - (j + 1))
          case measure => omega
          case rel =>
            have hB6 : Below B wr w5 := (((Below.refl B wr).alloc (by omega) _).drew).grown hg5 (by simp; omega) (fun q hq => (HOA.out.lt q hq).1)
            have hbb := below_box (v' := .slice (some ⟨g2, 0, none⟩) (st.length + j + 1) cap2) HBX.out.1 HBX.out.2 hsz hg5 (hat5.elim (fun h => .inl h.symm) (fun h => .inr (by rw [h]; simp [Value.ownBlock])))
            refine ⟨j + 1, rfl, hlt, by first | rfl | simp, ?_, hBw.trans hB6, hbb.1, hbb.2.1, hbb.2.2⟩
            have hjl : j < mems.length := by have := HL.out.1; omega
            have ht : mems.take (j + 1) = mems.take j ++ [mems[j]] := by simp
            have hlen' : (mems.take j).length = j := by rw [List.length_take]; omega
            have hc : pcell ⟨gm, om + j * 5, d + 1, mems[j]⟩ = [.pointer none, .pointer (some ⟨gm, om + j * 5, none⟩), .int .i64 ((d : Int) + 1)] := by
              unfold pcell; rw [if_neg (by rw [HM.out.2.1 _ (List.getElem_mem hjl)]; decide)]; rfl
            rw [ht, row_snoc, hlen', ← List.append_assoc, pcells_append]
            have e : pcells [⟨gm, om + j * 5, d + 1, mems[j]⟩] = [.pointer none, .pointer (some ⟨gm, om + j * 5, none⟩), .int .i64 ((d : Int) + 1)] := by simp [pcells, hc]
            rw [e]; exact hown5
      · have hi' : ¬ (j : Int) < (nm : Int) := by omega
        have hjn : j = nm := by omega
        have he : mems.take j = mems := by rw [hjn, ← HL.out.1, List.take_length]
        have hrow := World.ownsRow.drew HOWN.out
        rw [he] at hrow
        have hst : (st ++ row 5 gm om (d + 1) mems).length = st.length + j := by rw [List.length_append, row_length, HL.out.1, hjn]
        have CE : Hid (Calls Tryd.prog 50 #[.slice x0 (st.length + j) c0, .slice xa na ca, .int .i64 (IntKind.i64.wrap ((d : Int) + 1))] wr.drew
            fun e W' => ∃ v', e = .returned v' ∧ W'.ownsRow B 76 3 v' (st ++ (row 5 gm om (d + 1) mems ++ row 7 ga oa (d + 1) args)).length (pcells (st ++ (row 5 gm om (d + 1) mems ++ row 7 ga oa (d + 1) args))) ∧ Below B wr.drew W') := Lib.hid (by
          rw [show IntKind.i64.wrap ((d : Int) + 1) = ((d + 1 : Nat) : Int) by rw [IntKind.wrap_i64]; omega, ← List.append_assoc]
          have hx := HH.out.1
          rw [HL.out.2] at hx
          rw [← HL.out.2] at hx ⊢
          rw [List.length_append, row_length]
          exact exprs_any B wr.drew _ _ (st ++ row 5 gm om (d + 1) mems) S args ga oa (d + 1) (by simp; omega) (by rw [hst]; exact hrow) hx HH.out.2.2 (by rw [hst, HL.out.2]; omega))
        clear hjn he hrow hst
        go_wp2_with fail
        go_region_with (first | (go_at_call 50; with_reducible refine CE.out.mono ?_; rintro e w2 ⟨v', rfl, ho2, hB2⟩; have HO2 := Lib.hid ho2; clear ho2))
        all_goals
          go_wp2_with fail
          go_ret
          refine ⟨_, row 5 gm om (d + 1) mems ++ row 7 ga oa (d + 1) args, rfl, HO2.out, (hBw.drew).trans hB2, ?_, ?_⟩
          · intro x hx
            rcases List.mem_append.1 hx with hx | hx
            · obtain ⟨i, hi, rfl⟩ := row_mem 5 gm om (d + 1) mems x hx
              exact HM.out.1 i hi
            · obtain ⟨i, hi, rfl⟩ := row_mem 7 ga oa (d + 1) args x hx
              exact HH.out.2.1 i hi
          · rw [List.map_append, row_map, row_map]; rfl
end Go.Proofs.YtoopndgdaiblpaaDoor
