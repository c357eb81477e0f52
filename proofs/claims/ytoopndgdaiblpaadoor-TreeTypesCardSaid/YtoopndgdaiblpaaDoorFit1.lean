/- tree.fits at any item of a fair tree; its types. -/
import Derived.Test.YtoopndgdaiblpaaDoorTrF
namespace Go.Proofs.YtoopndgdaiblpaaDoor
open Go.ChangeShapes Go.WideShapes Go.ChangeAt Go.RowKit

theorem fits_it (S : Nat → Prop) (x : It) (T : TypeId) (v : Value) (w : World) (hg : w.cell? ⟨0, 0, none⟩ = some (.iface T v)) (hgl : 0 < w.heap.size) (hS : ∀ b, S b → b < w.heap.size) (ht : NdAt w S x.b x.o x.t) (hf : Fair x.t) :
    ∃ ty gt ot, Sl S ty (ndTypes x.t).length gt ot ∧ (∀ i (h : i < (ndTypes x.t).length), TyAt w S gt (ot + i * 5) (ndTypes x.t)[i]) ∧ Calls Tryd.prog 32 #[.agg (pcell x).toArray] w (fitGives (partB x.t) ty w) := by
  obtain ⟨b, o, d, t⟩ := x
  simp only at ht hf ⊢
  cases hf with
  | ex hk hs hn htt hl ha hm =>
    obtain ⟨ty, hty, hc⟩ := fits_ex S b o d T v w _ _ _ _ _ _ _ hg hgl hS ht hk.1 hk.2 hs hn
    cases ht with
    | ex hb h0 h1 h2 h3 h4 h5 h6 hsa hsn hst hsm hss hns hts hms hax hmx =>
      have he := Option.some.inj (hty.symm.trans h5)
      subst he
      exact ⟨_, _, _, hst, hts, hc⟩
  | me hk hs hn htt hl ha =>
    obtain ⟨ty, hty, hc⟩ := fits_me S b o d T v w _ hg hgl hS ht rfl (fun k nm a ts ags e => by injection e; subst_vars; exact ⟨hk.1, hk.2, hs, hn⟩)
    cases ht with
    | me hb h0 h1 h2 h3 h4 hsa hst hss hts hax =>
      have he := Option.some.inj (hty.symm.trans h4)
      subst he
      exact ⟨_, _, _, hst, hts, hc⟩
end Go.Proofs.YtoopndgdaiblpaaDoor
