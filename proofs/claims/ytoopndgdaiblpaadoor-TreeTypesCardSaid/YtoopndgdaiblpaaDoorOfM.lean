/- trefoilref02.Of at a kind 14: an object. -/
import Derived.Test.YtoopndgdaiblpaaDoorMem
import Derived.Test.YtoopndgdaiblpaaDoorOfK
import Derived.Deep.Cut
import Derived.Deep.CutRange
import Derived.Deep.LoopGhost
namespace Go.Proofs.YtoopndgdaiblpaaDoor
open Go.ChangeShapes Go.WideShapes Go.ChangeAt Go.RowKit

/-- What a member has when its head is read: all but its part. -/
def MemA (B : Nat) (g : List Pt → Nd × List Pt) (wr : World) (rest : List Pt) (s0 : Value) (wx : World) : Prop := ∃ (mk : Int) (name as_ : ByteArray) (vt : Value) (ty : List Ty) (rest1 : List Pt) (gt ot : Nat),
  wx.heap[wr.heap.size]? = some (.cells #[.int .i64 mk, .string name, .string as_, .slice none 0 0, vt] 47) ∧ Sl (fun b => wr.heap.size < b ∧ b < wx.heap.size) vt ty.length gt ot ∧ (∀ i (h : i < ty.length), TyAt wx (fun b => wr.heap.size < b ∧ b < wx.heap.size) gt (ot + i * 5) ty[i]) ∧ PV wx B s0 rest1 ∧ rest1.length ≤ rest.length ∧
  Below wr.heap.size wr wx ∧ (mk = 4 → memL g rest = (.me 4 name as_ ty [], rest1)) ∧ (mk ≠ 4 → memL g rest = (.me mk name as_ ty [(g rest1).1], (g rest1).2))
/-- A member that is whole. -/
def MemB (B : Nat) (g : List Pt → Nd × List Pt) (wr : World) (rest : List Pt) (s0 : Value) (wx : World) : Prop := ∃ (mk : Int) (name as_ : ByteArray) (va vt : Value),
  wx.heap[wr.heap.size]? = some (.cells #[.int .i64 mk, .string name, .string as_, va, vt] 47) ∧ MeV wx (fun b => wr.heap.size < b ∧ b < wx.heap.size) [.int .i64 mk, .string name, .string as_, va, vt] (memL g rest).1 ∧ PV wx B s0 (memL g rest).2 ∧ Below wr.heap.size wr wx

set_option maxHeartbeats 2000000 in
set_option maxRecDepth 100000 in
theorem of_14 (B : Nat) (f : Nat) (p : Pt) (r : List Pt) (g o cap : Nat) (w : World) (hk : p.kind % 21 = 14) (hok : p.ok) (hp : PAt w g o (p :: r)) (hg : g < B) (hBw : B ≤ w.heap.size) (hc : r.length + 1 ≤ cap) (hm : cap ≤ maxLen) (hlen : r.length ≤ 1000)
    (ih : ∀ (l : List Pt) (v : Value) (W : World), B ≤ W.heap.size → l.length ≤ r.length → PV W B v l → Calls Tryd.prog 10 #[v] W (OfGives B W (ofL f l))) :
    Calls Tryd.prog 10 #[.slice (some ⟨g, o, none⟩) (r.length + 1) cap] w (OfGives B w (ofL (f + 1) (p :: r))) := by
  have hgw : g < w.heap.size := by omega
  obtain ⟨i0, hi, hz0, hz1, hz2⟩ := info_parts memInfo
  obtain ⟨h0, h1, h2, h3, h4, _⟩ := hp 0 (by simp)
  simp only [List.getElem_cons_zero, Nat.zero_mul, Nat.add_zero] at h0 h1 h2 h3 h4
  obtain ⟨ok1, ok2, ok3, ok4, ok5, ok6⟩ := hok
  have IH := Lib.hid ih
  have HP := Lib.hid hp.tail
  obtain ⟨k, s, n, a, t⟩ := p
  simp only at h0 h1 h2 h3 h4 hk ok1 ok2 ok3 ok4 ok5 ok6
  unfold maxLen at hm
  have z14 : (k % 21 == 14) = true := by simp; omega
  have hof : ofL (f + 1) (⟨k, s, n, a, t⟩ :: r) = (.ex (k % 21) s n [] [] [] (memsL (ofL f) (a % 4).toNat r).1, (memsL (ofL f) (a % 4).toNat r).2) := by
    rw [ofL]; simp [hk]
  have HF := Lib.hid hof
  clear ih hp hk hof
  obtain ⟨m, hm2⟩ : ∃ m : Nat, (a % 4).toNat = m := ⟨_, rfl⟩
  have ham : a % 4 = (m : Int) := by omega
  have hm3 : m ≤ 3 := by omega
  rw [hm2] at HF
  clear hm2
  go_enter Tryd.func10, Tryd.ntmps10
  go_wp2_with fail
  all_goals
    go_loopg [0, 7] m (fun gk v i wr => ∃ (j : Nat) (done : List Nd) (cs : List (List Value)) (rest : List Pt) (va : Value), gk = m - j ∧ j ≤ m ∧ i = .int .i64 j ∧ PV wr B v rest ∧ rest.length ≤ r.length ∧ done.length = j ∧ done ++ (memsL (ofL f) (m - j) rest).1 = (memsL (ofL f) m r).1 ∧ (memsL (ofL f) (m - j) rest).2 = (memsL (ofL f) m r).2 ∧
      wr.heap[w.heap.size + 1 + 1]? = some (.cells #[.int .i64 (k % 21), .string s, .int .i64 n, .slice none 0 0, .slice none 0 0, .slice none 0 0, va] 33) ∧ wr.heap[w.heap.size]? = some (.cells #[.int .i64 0, .string ⟨#[]⟩, .int .i64 0, .slice none 0 0, .slice none 0 0, .slice none 0 0, .slice none 0 0] 33) ∧ wr.ownsRow (w.heap.size + 3) 47 5 va done.length cs.flatten ∧ Mvs wr (fun b => w.heap.size + 2 < b ∧ b < wr.heap.size ∧ va.ownBlock ≠ some b) cs done ∧ Below w.heap.size w wr)
    case atStart =>
      have hB0 : Below w.heap.size w (((w.alloc (.cells #[.int .i64 0, .string ⟨#[]⟩, .int .i64 0, .slice none 0 0, .slice none 0 0, .slice none 0 0, .slice none 0 0] 33)).alloc (.cells #[.int .u8 k, .string s, .int .i64 n, .int .u8 a, .int .u8 t] 54)).alloc (.cells #[.int .i64 (k % 21), .string s, .int .i64 n, .slice none 0 0, .slice none 0 0, .slice none 0 0, .slice none 0 0] 33)) :=
        (((Below.refl _ _).alloc (Nat.le_refl _) _).alloc (by simp) _).alloc (by simp; omega) _
      refine ⟨0, [], [], r, .slice none 0 0, rfl, Nat.zero_le _, rfl, ?_, Nat.le_refl _, rfl, rfl, rfl, heap_last (by simp), by rw [heap_old (by simp; omega), heap_old (by simp), heap_last rfl], World.ownsRow_nil _ _ _ _, trivial, hB0⟩
      first
        | exact .inr ⟨g, o + 5, cap - 1, rfl, by omega, by unfold maxLen; omega, hg, HP.out.carry hB0 (by omega)⟩
        | (have hr0 : r.length = 0 := by omega
           rw [hr0]
           exact .inl ⟨List.length_eq_zero_iff.1 hr0, _, _, rfl⟩)
        | exact .inr ⟨g, o + 5, 0, by simp, by omega, by unfold maxLen; omega, hg, HP.out.carry hB0 (by omega)⟩
    case round =>
      obtain ⟨j, done, cs, rest, va, rfl, hj, rfl, hpv, hrl, hdl, hd1, hd2, hbox, hres, hown, hvals, hB⟩ := hrel
      have HV := Lib.hid hvals
      have HD := Lib.hid (And.intro hd1 (And.intro hd2 hdl))
      have HPV := Lib.hid hpv
      have HBX := Lib.hid hbox
      have HRES := Lib.hid hres
      have HOWN := Lib.hid hown
      clear hvals hd1 hd2 hdl hpv hbox hres hown
      obtain ⟨xa, ca, hva⟩ : ∃ x c, va = .slice x done.length c := by
        rcases HOWN.out.2 with ⟨h, h0⟩ | ⟨gx, cx, cur, h, _⟩
        · exact ⟨none, 0, by rw [h, h0]⟩
        · exact ⟨_, _, h⟩
      subst hva
      have hbw := hB.size
      have hl2 : w.heap.size + 1 + 1 < wr.heap.size := by
        rcases Nat.lt_or_ge (w.heap.size + 1 + 1) wr.heap.size with h | h
        · exact h
        · have := HBX.out; rw [Array.getElem?_eq_none h] at this; cases this
      by_cases hlt : j < m
      · have hi' : (j : Int) < (m : Int) := by omega
        go_upto_region 12 with fail
        go_cut [8] from 41 to 102 (fun s8 wx => s8 = .pointer (some ⟨wr.heap.size, 0, none⟩) ∧ wx = wr.alloc (.cells #[.int .i64 3, .string ⟨#[109]⟩, .string ⟨#[]⟩, .slice none 0 0, .slice none 0 0] 47))
        case first =>
          go_wp2_with fail
          go_meet
          case rel => exact ⟨rfl, rfl⟩
        case rest =>
          obtain ⟨rfl, rfl⟩ := hcut
          go_step
          go_step
          go_cut [0] from 41 to 102 (fun s0 wx => MemA B (ofL f) wr rest s0 wx)
          case first =>
            cases rest with
            | nil =>
              obtain ⟨x0, c0, rfl⟩ : ∃ x c, u0 = .slice x 0 c := by
                rcases HPV.out with ⟨_, x, c, h⟩ | ⟨g1, o1, c1, h, _⟩
                · exact ⟨x, c, h⟩
                · exact ⟨_, _, h⟩
              go_wp2_with fail
              go_meet
              case rel =>
                exact ⟨3, ⟨#[109]⟩, ⟨#[]⟩, .slice none 0 0, [], [], 0, 0, heap_last rfl, .inl ⟨rfl, rfl⟩, fun _ h => absurd h (Nat.not_lt_zero _), .inl ⟨rfl, _, _, rfl⟩, Nat.le_refl _, (Below.refl _ _).alloc (Nat.le_refl _) _, fun h => by omega, fun _ => rfl⟩
            | cons q r' =>
              try (exfalso; rw [List.length_cons] at hrl; omega)
              all_goals
                rcases HPV.out with ⟨h, _⟩ | ⟨g1, o1, cap1, rfl, hc1, hm1, hg1, hpa⟩
                · cases h
                have HPA := Lib.hid hpa.tail
                obtain ⟨d0, d1, d2, d3, d4, qok⟩ := hpa 0 (by simp)
                simp only [List.getElem_cons_zero, Nat.zero_mul, Nat.add_zero] at d0 d1 d2 d3 d4 qok
                obtain ⟨qk, qs, qn, qa, qt⟩ := q
                obtain ⟨qk1, qk2, qk3, qk4, qk5, qk6⟩ := qok
                simp only at d0 d1 d2 d3 d4 qk1 qk2 qk3 qk4 qk5 qk6
                clear hpa
                rw [List.length_cons] at hc1
                unfold maxLen at hm1
                have hgr : g1 < wr.heap.size := by omega
                have hl1 : List.length (Pt.mk qk qs qn qa qt :: r') = r'.length + 1 := rfl
                rw [hl1]
                have q5 : IntKind.i64.wrap (qa.tmod 5) = qa % 5 := by
                  rw [Int.tmod_eq_emod_of_nonneg qk3, IntKind.wrap_i64]; omega
                have Q5 := Lib.hid q5
                clear q5
                go_wp2_with fail
                go_cut [] from 41 to 102 (fun wx => wx = (wr.alloc (.cells #[.int .i64 (qa % 5), .string qs, .string ⟨#[]⟩, .slice none 0 0, .slice none 0 0] 47)).drew)
                case first =>
                  go_region
                  all_goals
                    go_wp2_with fail
                    go_meet
                    case rel => first | rfl | rw [Q5.out]
                case rest =>
                  subst hcut
                  by_cases e4 : qa % 5 = 4
                  · have z4 : (qa % 5 == 4) = true := by simp [e4]
                    have z1 : (qa % 5 == 1) = false := by simp [e4]
                    have E4 := Lib.hid e4
                    clear e4
                    go_wp2_with fail
                    refine (typ_any qt _ qk5 qk6).mono ?_
                    rintro e2 w2 ⟨v0, v1, v2, v3, v4, rfl, hty, hB2⟩
                    obtain ⟨k2, s2, a2, la2, ca2, b2, lb2, cb2, z2, rfl, rfl, rfl, rfl, rfl⟩ := ty_shape hty
                    have HTY := Lib.hid hty
                    clear hty
                    have hs2 := hB2.size
                    simp only [World.size_alloc, World.size_drew] at hs2
                    have hmx := Lib.hid ((hB2.block wr.heap.size (by simp)).trans (show (World.alloc _ _).heap[_]? = _ from heap_last rfl))
                    have hmb : (w2.alloc (.cells #[.int .i64 k2, .string s2, .slice a2 la2 ca2, .slice b2 lb2 cb2, .bool z2] 37)).heap[wr.heap.size]? = _ := (heap_old (by omega)).trans hmx.out
                    have b4 := Lib.cell_of_heap hmb 4
                    have fz4 := Lib.frozen_of_heap hmb 4
                    simp only [List.getElem?_toArray, List.getElem?_cons_zero, List.getElem?_cons_succ] at b4
                    go_wp2_with fail
                    all_goals go_meet
                    all_goals
                      case rel =>
                        obtain ⟨WF, hWF⟩ : ∃ WF, ((w2.alloc (.cells #[.int .i64 k2, .string s2, .slice a2 la2 ca2, .slice b2 lb2 cb2, .bool z2] 37)).setCell ⟨wr.heap.size, 4, none⟩ (.slice (some ⟨w2.heap.size, 0, none⟩) 1 1)) = WF := ⟨_, rfl⟩
                        have hB20 : Below wr.heap.size w2 WF := by
                          rw [← hWF]
                          exact ((Below.refl wr.heap.size w2).alloc (by omega) _).setCell (p := ⟨wr.heap.size, 4, none⟩) (Nat.le_refl _) _
                        have hBx : Below wr.heap.size wr WF := ((((Below.refl _ _).alloc (Nat.le_refl _) _).drew).trans (hB2.mono (by simp))).trans hB20
                        have hsz : WF.heap.size = w2.heap.size + 1 := by rw [← hWF]; simp
                        have hbf : WF.heap[wr.heap.size]? = some (.cells #[.int .i64 (qa % 5), .string qs, .string ⟨#[]⟩, .slice none 0 0, .slice (some ⟨w2.heap.size, 0, none⟩) 1 1] 47) := by
                          have := heap_setCell_same _ _ 4 _ _ (.slice (some ⟨w2.heap.size, 0, none⟩) 1 1) hmb
                          rw [hWF] at this
                          simpa using this
                        have hk2 : ∀ b, b < w2.heap.size → wr.heap.size < b → WF.heap[b]? = w2.heap[b]? := fun b h1 h2 => by
                          rw [← hWF, RowKit.Below.heap_setCell _ _ _ _ (show b ≠ wr.heap.size by omega), heap_old h1]
                        have hlast : WF.heap[w2.heap.size]? = some (.cells #[.int .i64 k2, .string s2, .slice a2 la2 ca2, .slice b2 lb2 cb2, .bool z2] 37) := by
                          rw [← hWF, RowKit.Below.heap_setCell _ _ _ _ (show w2.heap.size ≠ wr.heap.size by omega), heap_last rfl]
                        rw [hWF]
                        refine ⟨qa % 5, qs, ⟨#[]⟩, .slice (some ⟨w2.heap.size, 0, none⟩) 1 1, [typeOf qt], r', w2.heap.size, 0, hbf, .inr ⟨1, rfl, by simp, by decide, ⟨by omega, by omega⟩⟩, fun i hi => ?_, ?_, by simp, hBx, fun _ => ?_, fun h => absurd E4.out h⟩
                        · match i, hi with
                          | 0, _ =>
                            refine ty_row (o := 0) HTY.out (fun b hb => hk2 b hb.2 (by have := hb.1; simp at this; omega)) (fun b hb => ⟨by have := hb.1; simp at this; omega, by have := hb.2; omega⟩) ⟨by omega, by omega⟩ hlast (fun j u hj => by simpa using hj)
                        · first
                            | exact .inr ⟨g1, o1 + 5, cap1 - 1, rfl, by omega, by unfold maxLen; omega, hg1, HPA.out.carry hBx hgr⟩
                            | (have hr0 : r'.length = 0 := by omega
                               rw [hr0]
                               exact .inl ⟨List.length_eq_zero_iff.1 hr0, _, _, rfl⟩)
                            | exact .inr ⟨g1, o1 + 5, 0, by simp, by omega, by unfold maxLen; omega, hg1, HPA.out.carry hBx hgr⟩
                        · simp [memL, E4.out]
                  · have z4 : (qa % 5 == 4) = false := by simp [e4]
                    have E4 := Lib.hid e4
                    clear e4
                    by_cases e1 : qa % 5 = 1
                    · have z1 : (qa % 5 == 1) = true := by simp [e1]
                      have E1 := Lib.hid e1
                      clear e1
                      by_cases n0 : 0 < qn
                      · go_wp2_with fail
                        all_goals go_meet
                        all_goals
                          case rel =>
                            have hBx : Below wr.heap.size wr (wr.alloc (.cells #[.int .i64 (qa % 5), .string qs, .string ⟨#[115, 117, 112, 101, 114]⟩, .slice none 0 0, .slice none 0 0] 47)).drew := ((Below.refl _ _).alloc (Nat.le_refl _) _).drew
                            refine ⟨qa % 5, qs, ⟨#[115, 117, 112, 101, 114]⟩, .slice none 0 0, [], r', 0, 0, heap_last rfl, .inl ⟨rfl, rfl⟩, fun _ h => absurd h (Nat.not_lt_zero _), ?_, by simp, hBx, fun h => absurd h E4.out, fun _ => ?_⟩
                            · first
                                | exact .inr ⟨g1, o1 + 5, cap1 - 1, rfl, by omega, by unfold maxLen; omega, hg1, HPA.out.carry hBx hgr⟩
                                | (have hr0 : r'.length = 0 := by omega
                                   rw [hr0]
                                   exact .inl ⟨List.length_eq_zero_iff.1 hr0, _, _, rfl⟩)
                                | exact .inr ⟨g1, o1 + 5, 0, by simp, by omega, by unfold maxLen; omega, hg1, HPA.out.carry hBx hgr⟩
                            · simp [memL, E1.out, n0]
                      · go_wp2_with fail
                        all_goals go_meet
                        all_goals
                          case rel =>
                            have hBx : Below wr.heap.size wr (wr.alloc (.cells #[.int .i64 (qa % 5), .string qs, .string ⟨#[]⟩, .slice none 0 0, .slice none 0 0] 47)).drew := ((Below.refl _ _).alloc (Nat.le_refl _) _).drew
                            refine ⟨qa % 5, qs, ⟨#[]⟩, .slice none 0 0, [], r', 0, 0, heap_last rfl, .inl ⟨rfl, rfl⟩, fun _ h => absurd h (Nat.not_lt_zero _), ?_, by simp, hBx, fun h => absurd h E4.out, fun _ => ?_⟩
                            · first
                                | exact .inr ⟨g1, o1 + 5, cap1 - 1, rfl, by omega, by unfold maxLen; omega, hg1, HPA.out.carry hBx hgr⟩
                                | (have hr0 : r'.length = 0 := by omega
                                   rw [hr0]
                                   exact .inl ⟨List.length_eq_zero_iff.1 hr0, _, _, rfl⟩)
                                | exact .inr ⟨g1, o1 + 5, 0, by simp, by omega, by unfold maxLen; omega, hg1, HPA.out.carry hBx hgr⟩
                            · simp [memL, E1.out, n0]
                    · have z1 : (qa % 5 == 1) = false := by simp [e1]
                      have E1 := Lib.hid e1
                      clear e1
                      go_wp2_with fail
                      all_goals go_meet
                      all_goals
                        case rel =>
                          have hBx : Below wr.heap.size wr (wr.alloc (.cells #[.int .i64 (qa % 5), .string qs, .string ⟨#[]⟩, .slice none 0 0, .slice none 0 0] 47)).drew := ((Below.refl _ _).alloc (Nat.le_refl _) _).drew
                          refine ⟨qa % 5, qs, ⟨#[]⟩, .slice none 0 0, [], r', 0, 0, heap_last rfl, .inl ⟨rfl, rfl⟩, fun _ h => absurd h (Nat.not_lt_zero _), ?_, by simp, hBx, fun h => absurd h E4.out, fun _ => ?_⟩
                          · first
                              | exact .inr ⟨g1, o1 + 5, cap1 - 1, rfl, by omega, by unfold maxLen; omega, hg1, HPA.out.carry hBx hgr⟩
                              | (have hr0 : r'.length = 0 := by omega
                                 rw [hr0]
                                 exact .inl ⟨List.length_eq_zero_iff.1 hr0, _, _, rfl⟩)
                              | exact .inr ⟨g1, o1 + 5, 0, by simp, by omega, by unfold maxLen; omega, hg1, HPA.out.carry hBx hgr⟩
                          · simp [memL, E4.out, E1.out]
          case rest =>
            obtain ⟨mk, name, as_, vt, ty, rest1, gt, ot, hmb, hsl, hty, hpv1, hr1, hBA, hm4, hn4⟩ := hcut
            obtain ⟨xt, ct, rfl, _⟩ := hsl.shape
            have HSL := Lib.hid hsl
            have HTY := Lib.hid hty
            have HPV1 := Lib.hid hpv1
            have HMB := Lib.hid hmb
            have HM4 := Lib.hid hm4
            have HN4 := Lib.hid hn4
            clear hsl hty hpv1 hmb hm4 hn4
            have hbA := hBA.size
            have hml : wr.heap.size < wc.heap.size := by
              rcases Nat.lt_or_ge wr.heap.size wc.heap.size with h | h
              · exact h
              · have := HMB.out; rw [Array.getElem?_eq_none h] at this; cases this
            have m0 := Lib.cell_of_heap HMB.out 0
            simp only [List.getElem?_toArray, List.getElem?_cons_zero] at m0
            go_step
            go_step
            go_cut [0] from 41 to 102 (fun s0 wx => MemB B (ofL f) wr rest s0 wx)
            case first =>
              by_cases e4 : mk = 4
              · have z4 : (mk != 4) = false := by simp [e4]
                have E4 := Lib.hid e4
                clear e4
                go_wp2_with fail
                go_meet
                case rel =>
                  have hm := HM4.out E4.out
                  refine ⟨mk, name, as_, .slice none 0 0, .slice xt ty.length ct, HMB.out, ?_, by rw [hm]; exact HPV1.out, hBA⟩
                  rw [hm, E4.out]
                  exact ⟨_, _, _, _, _, ty, [], 0, 0, gt, ot, rfl, rfl, .inl ⟨rfl, rfl⟩, HSL.out, fun _ h => absurd h (Nat.not_lt_zero _), HTY.out, fun _ h => (by cases h)⟩
              · have z4 : (mk != 4) = true := by simp [e4]
                have E4 := Lib.hid e4
                clear e4
                have cc := Lib.hid (IH.out rest1 u0 wc (by omega) (Nat.le_trans hr1 hrl) HPV1.out)
                go_wp2_with fail
                refine cc.out.mono ?_
                rintro e' w2 ⟨c0, c1, c2, c3, c4, c5, c6, rest2, rfl, hex2, hpv2, hB2⟩
                obtain ⟨⟨x3, l3, e3, rfl⟩, ⟨x4, l4, e4, rfl⟩, ⟨x5, l5, e5, rfl⟩, ⟨x6, l6, e6, rfl⟩⟩ := hex2.shapes
                obtain ⟨k2, s2, n2, rfl, rfl, rfl⟩ := hex2.heads
                have HX2 := Lib.hid hex2
                have HPV2 := Lib.hid hpv2
                clear hex2 hpv2 cc
                have hbw2 := hB2.size
                have hmx := Lib.hid ((hB2.block _ hml).trans HMB.out)
                have hm5 : ((w2.alloc (.cells #[.int .i64 k2, .string s2, .int .i64 n2, .slice x3 l3 e3, .slice x4 l4 e4, .slice x5 l5 e5, .slice x6 l6 e6] 33)).alloc (.cells #[.int .i64 k2, .string s2, .int .i64 n2, .slice x3 l3 e3, .slice x4 l4 e4, .slice x5 l5 e5, .slice x6 l6 e6] 33)).heap[wr.heap.size]? = _ := (heap_old (by simp; omega)).trans ((heap_old (by omega)).trans hmx.out)
                have b3 := Lib.cell_of_heap hm5 3
                have fz3 := Lib.frozen_of_heap hm5 3
                simp only [List.getElem?_toArray, List.getElem?_cons_zero, List.getElem?_cons_succ] at b3
                go_wp2_with fail
                go_meet
                case rel =>
                  obtain ⟨WF, hWF⟩ : ∃ WF, (((w2.alloc (.cells #[.int .i64 k2, .string s2, .int .i64 n2, .slice x3 l3 e3, .slice x4 l4 e4, .slice x5 l5 e5, .slice x6 l6 e6] 33)).alloc (.cells #[.int .i64 k2, .string s2, .int .i64 n2, .slice x3 l3 e3, .slice x4 l4 e4, .slice x5 l5 e5, .slice x6 l6 e6] 33)).setCell ⟨wr.heap.size, 3, none⟩ (.slice (some ⟨w2.heap.size + 1, 0, none⟩) 1 1)) = WF := ⟨_, rfl⟩
                  have hB20 : Below wr.heap.size w2 WF := by
                    rw [← hWF]
                    exact (((Below.refl wr.heap.size w2).alloc (by omega) _).alloc (by simp; omega) _).setCell (p := ⟨wr.heap.size, 3, none⟩) (Nat.le_refl _) _
                  have hBx : Below wr.heap.size wr WF := (hBA.trans (hB2.mono (by omega))).trans hB20
                  have hsz : WF.heap.size = w2.heap.size + 1 + 1 := by rw [← hWF]; simp
                  have hbf : WF.heap[wr.heap.size]? = some (.cells #[.int .i64 mk, .string name, .string as_, .slice (some ⟨w2.heap.size + 1, 0, none⟩) 1 1, .slice xt ty.length ct] 47) := by
                    have := heap_setCell_same _ _ 3 _ _ (.slice (some ⟨w2.heap.size + 1, 0, none⟩) 1 1) hm5
                    rw [hWF] at this
                    simpa using this
                  have hk2 : ∀ b, b < w2.heap.size → wr.heap.size < b → WF.heap[b]? = w2.heap[b]? := fun b h1 h2 => by
                    rw [← hWF, RowKit.Below.heap_setCell _ _ _ _ (show b ≠ wr.heap.size by omega), heap_old (by simp; omega), heap_old h1]
                  have hlast : WF.heap[w2.heap.size + 1]? = some (.cells #[.int .i64 k2, .string s2, .int .i64 n2, .slice x3 l3 e3, .slice x4 l4 e4, .slice x5 l5 e5, .slice x6 l6 e6] 33) := by
                    rw [← hWF, RowKit.Below.heap_setCell _ _ _ _ (show w2.heap.size + 1 ≠ wr.heap.size by omega), heap_last (by simp)]
                  rw [hWF]
                  have hm := HN4.out E4.out
                  refine ⟨mk, name, as_, .slice (some ⟨w2.heap.size + 1, 0, none⟩) 1 1, .slice xt ty.length ct, hbf, ?_, by rw [hm]; exact HPV2.out.carry' hB20 (by omega), hBx⟩
                  rw [hm]
                  have hkA : Keeps (fun b => wr.heap.size < b ∧ b < wc.heap.size) wc WF := fun b hb => by
                    rw [hk2 b (by have := hb.2; omega) hb.1, hB2.block b hb.2]
                  have hSA : ∀ b, (wr.heap.size < b ∧ b < wc.heap.size) → (wr.heap.size < b ∧ b < WF.heap.size) := fun b hb => ⟨hb.1, by have := hb.2; omega⟩
                  refine ⟨_, _, _, _, _, ty, [(ofL f rest1).1], w2.heap.size + 1, 0, gt, ot, rfl, rfl, .inr ⟨1, rfl, by simp, by decide, ⟨by omega, by omega⟩⟩, HSL.out.mono hSA, fun i hi => ?_, fun i hi => (HTY.out i hi).carry hkA hSA, fun x hx => by rw [List.mem_singleton.1 hx]; exact ofL_ex f rest1⟩
                  match i, hi with
                  | 0, _ =>
                    refine (HX2.out.carry (C := fun b => wr.heap.size < b ∧ b < WF.heap.size) (fun b hb => hk2 b hb.2 (by have := hb.1; omega)) (fun b hb => ⟨by have := hb.1; omega, by have := hb.2; omega⟩)).at_ ⟨by omega, by omega⟩ fun j u hj => ?_
                    rw [Lib.cell_of_heap hlast]
                    simpa using hj
            case rest =>
              obtain ⟨mk, name, as_, vaM, vtM, hmb, hme, hpvM, hBM⟩ := hcut
              obtain ⟨⟨y1, y2, y3, rfl⟩, ⟨z1, z2, z3, rfl⟩⟩ : (∃ x l c, vaM = .slice x l c) ∧ (∃ x l c, vtM = .slice x l c) := by
                obtain ⟨_, _, _, _, _, _, _, _, _, _, _, h0, _, h1, h2, _⟩ := hme
                simp only [List.cons.injEq, and_true] at h0
                obtain ⟨_, _, _, rfl, rfl⟩ := h0
                obtain ⟨x3, e3, rfl, _⟩ := h1.shape
                obtain ⟨x4, e4, rfl, _⟩ := h2.shape
                exact ⟨⟨_, _, _, rfl⟩, ⟨_, _, _, rfl⟩⟩
              have HME := Lib.hid hme
              have HPVM := Lib.hid hpvM
              have HMB := Lib.hid hmb
              clear hme hpvM hmb
              have hbM := hBM.size
              have hml : wr.heap.size < wc.heap.size := by
                rcases Nat.lt_or_ge wr.heap.size wc.heap.size with h | h
                · exact h
                · have := HMB.out; rw [Array.getElem?_eq_none h] at this; cases this
              have m0 := Lib.cell_of_heap HMB.out 0
              have m1 := Lib.cell_of_heap HMB.out 1
              have m2 := Lib.cell_of_heap HMB.out 2
              have m3 := Lib.cell_of_heap HMB.out 3
              have m4 := Lib.cell_of_heap HMB.out 4
              have hbx2 := Lib.hid ((hBM.block _ hl2).trans HBX.out)
              have hres2 := Lib.hid ((hBM.block w.heap.size (by omega)).trans HRES.out)
              have b6 := Lib.cell_of_heap hbx2.out 6
              simp only [List.getElem?_toArray, List.getElem?_cons_zero, List.getElem?_cons_succ] at m0 m1 m2 m3 m4 b6
              have hb3 : (wc.alloc (.cells #[.int .i64 mk, .string name, .string as_, .slice y1 y2 y3, .slice z1 z2 z3] 47)).heap[w.heap.size + 1 + 1]? = _ := (heap_old (by omega)).trans hbx2.out
              have HN := Lib.hid (new_cells wc [.int .i64 mk, .string name, .string as_, .slice y1 y2 y3, .slice z1 z2 z3] 47)
              have HO := Lib.hid ((own_below HOWN.out hBM).alloc (.cells #[.int .i64 mk, .string name, .string as_, .slice y1 y2 y3, .slice z1 z2 z3] 47))
              have h1 : ∀ u ∈ ([.int .i64 mk, .string name, .string as_, .slice y1 y2 y3, .slice z1 z2 z3] : List Value), u.oneCell' = true := by
                intro u hu
                simp only [List.mem_cons, List.not_mem_nil, or_false] at hu
                rcases hu with rfl | rfl | rfl | rfl | rfl <;> rfl
              have H1 := Lib.hid h1
              have hdn : done.length ≤ 3 := by have := HD.out.2.2; omega
              clear h1
              go_wp2_with (at_builtin; (refine wpList_append_own_at _ rfl (.tmp 98) (.tmp 100) _ rfl (w.heap.size + 3) 47 i0 _ 5 88 Tryd.underlying31 hi hz0 hz1 hz2 rfl (by decide) (.slice xa done.length ca) done.length cs.flatten rfl HO.out ⟨wc.heap.size, 0, none⟩ 1 1 [.int .i64 mk, .string name, .string as_, .slice y1 y2 y3, .slice z1 z2 z3] rfl rfl HN.out H1.out (by unfold maxLen; omega) (by omega) (by simp; omega) ?_); (intro v' w5 hown5 hg5 _ hat5); (obtain ⟨g5, cap5, rfl⟩ : ∃ g c, v' = .slice (some ⟨g, 0, none⟩) (done.length + 1) c := (by rcases hown5.2 with ⟨_, h⟩ | ⟨g, c, _, h, _⟩; exact absurd h (Nat.succ_ne_zero _); exact ⟨g, c, h⟩)); (have hB6 : Below (w.heap.size + 3) (wc.alloc (.cells #[.int .i64 mk, .string name, .string as_, .slice y1 y2 y3, .slice z1 z2 z3] 47)) w5 := (Below.refl _ _).grown hg5 (by simp; omega) (fun q hq => (HO.out.lt q hq).1)); (have hb5 := (hB6.block (w.heap.size + 1 + 1) (by omega)).trans hb3); (have c5 := Lib.cell_of_heap hb5 6); (have fz5 := Lib.frozen_of_heap hb5 6); (simp only [List.getElem?_toArray, List.getElem?_cons_zero, List.getElem?_cons_succ] at c5))
              go_roundg (m - (j + 1))
              case measure => omega
              case rel =>
                obtain ⟨hd1, hd2, hdl⟩ := HD.out
                obtain ⟨m', hm'⟩ : ∃ m', m - j = m' + 1 := ⟨m - j - 1, by omega⟩
                have hmj : m - (j + 1) = m' := by omega
                rw [hm'] at hd1 hd2
                simp only [memsL] at hd1 hd2
                have hA2 : Below wc.heap.size wc (wc.alloc (.cells #[.int .i64 mk, .string name, .string as_, .slice y1 y2 y3, .slice z1 z2 z3] 47)) := (Below.refl _ _).alloc (Nat.le_refl _) _
                have hBe1 : Below (w.heap.size + 1) wc (w5.setCell ⟨w.heap.size + 1 + 1, 6, none⟩ (.slice (some ⟨g5, 0, none⟩) (done.length + 1) cap5)) :=
                  ((hA2.mono (by omega)).trans (hB6.mono (by omega))).setCell (p := ⟨w.heap.size + 1 + 1, 6, none⟩) (by simp only; omega) _
                have hBe := hBe1.mono (Nat.le_succ w.heap.size)
                have hq : ∀ q, (Value.slice xa done.length ca).ownBlock = some q → q < wr.heap.size := fun q h => (HOWN.out.lt q h).2
                have hvr := mvs_round HV.out HME.out rfl hBM hA2 hg5 hq hat5 hl2 6 (.slice (some ⟨g5, 0, none⟩) (done.length + 1) cap5)
                refine ⟨j + 1, done ++ [(memL (ofL f) rest).1], cs ++ [[.int .i64 mk, .string name, .string as_, .slice y1 y2 y3, .slice z1 z2 z3]], (memL (ofL f) rest).2, .slice (some ⟨g5, 0, none⟩) (done.length + 1) cap5, rfl, hlt, by first | rfl | simp, HPVM.out.carry' hBe hBw, Nat.le_trans (memL_fine (ofL_fine f) rest).1 hrl, by simp [hdl], ?_, ?_, ?_, ?_, ?_, hvr, hB.trans ((hBM.mono hbw).trans hBe)⟩
                · rw [hmj, List.append_assoc]; exact hd1
                · rw [hmj]; exact hd2
                · have := heap_setCell_same _ _ 6 _ _ (.slice (some ⟨g5, 0, none⟩) (done.length + 1) cap5) hb5
                  simpa using this
                · exact (hBe1.block w.heap.size (by omega)).trans hres2.out
                · rw [List.length_append, List.flatten_append]
                  have := ownsRow_setCell_below hown5 (a := ⟨w.heap.size + 1 + 1, 6, none⟩) (by simp only; omega) (.slice (some ⟨g5, 0, none⟩) (done.length + 1) cap5)
                  simpa using this
      · have hi' : ¬ (j : Int) < (m : Int) := by omega
        obtain ⟨hd1, hd2, hdl⟩ := HD.out
        have hjm : m - j = 0 := by omega
        rw [hjm] at hd1 hd2
        have hd1' : done = (memsL (ofL f) m r).1 := by simpa [memsL] using hd1
        have hd2' : rest = (memsL (ofL f) m r).2 := by simpa [memsL] using hd2
        have HE := Lib.hid (And.intro hd1' hd2')
        clear hd1 hd2 hd1' hd2' hdl hjm
        have b0 := Lib.cell_of_heap HBX.out 0
        have b1 := Lib.cell_of_heap HBX.out 1
        have b2 := Lib.cell_of_heap HBX.out 2
        have b3 := Lib.cell_of_heap HBX.out 3
        have b4 := Lib.cell_of_heap HBX.out 4
        have b5 := Lib.cell_of_heap HBX.out 5
        have b6 := Lib.cell_of_heap HBX.out 6
        have r0 := Lib.cell_of_heap HRES.out 0
        have r1 := Lib.cell_of_heap HRES.out 1
        have r2 := Lib.cell_of_heap HRES.out 2
        have r3 := Lib.cell_of_heap HRES.out 3
        have r4 := Lib.cell_of_heap HRES.out 4
        have r5 := Lib.cell_of_heap HRES.out 5
        have r6 := Lib.cell_of_heap HRES.out 6
        have f0 := Lib.frozen_of_heap HRES.out 0
        have f1 := Lib.frozen_of_heap HRES.out 1
        have f2 := Lib.frozen_of_heap HRES.out 2
        have f3 := Lib.frozen_of_heap HRES.out 3
        have f4 := Lib.frozen_of_heap HRES.out 4
        have f5 := Lib.frozen_of_heap HRES.out 5
        have f6 := Lib.frozen_of_heap HRES.out 6
        simp only [List.getElem?_toArray, List.getElem?_cons_zero, List.getElem?_cons_succ] at b0 b1 b2 b3 b4 b5 b6 r0 r1 r2 r3 r4 r5 r6
        go_wp2_with fail
        refine bodyPost_ret (v := .tuple #[.agg #[.int .i64 (k % 21), .string s, .int .i64 n, .slice none 0 0, .slice none 0 0, .slice none 0 0, .slice xa done.length ca], u0]) (by simp [results, Tryd.results10, go_sem, r0, r1, r2, r3, r4, r5, r6]) rfl ?_
        have hBf : ∀ C, C ≤ w.heap.size → Below C wr (((((((wr.setCell ⟨w.heap.size, 0, none⟩ (.int .i64 (k % 21))).setCell ⟨w.heap.size, 1, none⟩ (.string s)).setCell ⟨w.heap.size, 2, none⟩ (.int .i64 n)).setCell ⟨w.heap.size, 3, none⟩ (.slice none 0 0)).setCell ⟨w.heap.size, 4, none⟩ (.slice none 0 0)).setCell ⟨w.heap.size, 5, none⟩ (.slice none 0 0)).setCell ⟨w.heap.size, 6, none⟩ (.slice xa done.length ca)) := fun C hC =>
          (((((((Below.refl C wr).setCell (p := ⟨w.heap.size, 0, none⟩) hC _).setCell (p := ⟨w.heap.size, 1, none⟩) hC _).setCell (p := ⟨w.heap.size, 2, none⟩) hC _).setCell (p := ⟨w.heap.size, 3, none⟩) hC _).setCell (p := ⟨w.heap.size, 4, none⟩) hC _).setCell (p := ⟨w.heap.size, 5, none⟩) hC _).setCell (p := ⟨w.heap.size, 6, none⟩) hC _
        have hkp : ∀ b, b ≠ w.heap.size → (((((((wr.setCell ⟨w.heap.size, 0, none⟩ (.int .i64 (k % 21))).setCell ⟨w.heap.size, 1, none⟩ (.string s)).setCell ⟨w.heap.size, 2, none⟩ (.int .i64 n)).setCell ⟨w.heap.size, 3, none⟩ (.slice none 0 0)).setCell ⟨w.heap.size, 4, none⟩ (.slice none 0 0)).setCell ⟨w.heap.size, 5, none⟩ (.slice none 0 0)).setCell ⟨w.heap.size, 6, none⟩ (.slice xa done.length ca)).heap[b]? = wr.heap[b]? := fun b hb => by
          rw [RowKit.Below.heap_setCell _ _ _ _ hb, RowKit.Below.heap_setCell _ _ _ _ hb, RowKit.Below.heap_setCell _ _ _ _ hb, RowKit.Below.heap_setCell _ _ _ _ hb, RowKit.Below.heap_setCell _ _ _ _ hb, RowKit.Below.heap_setCell _ _ _ _ hb, RowKit.Below.heap_setCell _ _ _ _ hb]
        have hsz := (hBf w.heap.size (Nat.le_refl _)).size
        generalize (((((((wr.setCell ⟨w.heap.size, 0, none⟩ (.int .i64 (k % 21))).setCell ⟨w.heap.size, 1, none⟩ (.string s)).setCell ⟨w.heap.size, 2, none⟩ (.int .i64 n)).setCell ⟨w.heap.size, 3, none⟩ (.slice none 0 0)).setCell ⟨w.heap.size, 4, none⟩ (.slice none 0 0)).setCell ⟨w.heap.size, 5, none⟩ (.slice none 0 0)).setCell ⟨w.heap.size, 6, none⟩ (.slice xa done.length ca)) = wf at *
        have hbw := hB.size
        refine ⟨_, _, _, _, _, _, _, _, rfl, ?_, ?_, hB.trans (hBf _ (Nat.le_refl _))⟩
        · rw [HF.out, ← HE.out.1]
          rcases HOWN.out.2 with ⟨hv, hl⟩ | ⟨gx, cx, cur, hv, hgx, hgh, hcx, hmx, _⟩
          · simp only [Value.slice.injEq] at hv
            obtain ⟨rfl, -, rfl⟩ := hv
            have hd0 : done = [] := List.length_eq_zero_iff.1 hl
            subst hd0
            exact ⟨_, _, _, _, _, _, _, [], [], [], [], 0, 0, 0, 0, 0, 0, 0, 0, rfl, rfl, .inl ⟨rfl, rfl⟩, .inl ⟨rfl, rfl⟩, .inl ⟨rfl, rfl⟩, .inl ⟨rfl, rfl⟩, fun _ h => absurd h (Nat.not_lt_zero _), fun _ h => absurd h (Nat.not_lt_zero _), fun _ h => absurd h (Nat.not_lt_zero _), fun _ h => absurd h (Nat.not_lt_zero _), fun _ h => (by cases h), fun _ h => (by cases h)⟩
          · cases hv
            have hgl : gx < wr.heap.size := by
              rcases Nat.lt_or_ge gx wr.heap.size with h | h
              · exact h
              · rw [Array.getElem?_eq_none h] at hgh; cases hgh
            have htr := mem_trees (S' := fun b => w.heap.size < b ∧ b < wf.heap.size) HV.out HOWN.out (fun b hb => hkp b (by have := hb.1; omega)) (fun b hb => ⟨by have := hb.1; omega, by have := hb.2.1; omega⟩) ⟨by omega, by omega⟩ (hkp gx (by omega))
            exact ⟨_, _, _, _, _, _, _, [], [], [], done, 0, 0, 0, 0, 0, 0, gx, 0, rfl, rfl, .inl ⟨rfl, rfl⟩, .inl ⟨rfl, rfl⟩, .inl ⟨rfl, rfl⟩, .inr ⟨ca, rfl, hcx, hmx, ⟨by omega, by omega⟩⟩, fun _ h => absurd h (Nat.not_lt_zero _), fun _ h => absurd h (Nat.not_lt_zero _), fun _ h => absurd h (Nat.not_lt_zero _), htr, fun _ h => (by cases h), HV.out.mems⟩
        · rw [HF.out]
          simp only
          rw [← HE.out.2]
          exact HPV.out.carry (hBf B hBw)
end Go.Proofs.YtoopndgdaiblpaaDoor
