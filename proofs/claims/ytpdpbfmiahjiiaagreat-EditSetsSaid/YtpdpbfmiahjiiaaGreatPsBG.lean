/- 'EditSets' answers true for every row of edits, every name, and every label, number and kind.
   No condition beyond the row's own. -/
import Derived.Test.YtpdpbfmiahjiiaaGreatPsAI
import Derived.Test.YtpdpbfmiahjiiaaGreatPsAP
import Derived.Test.YtpdpbfmiahjiiaaGreatPsBF
import Derived.Test.YtpdpbfmiahjiiaaGreatRows
set_option linter.unusedSectionVars false
set_option linter.unusedSimpArgs false
set_option linter.unusedVariables false
set_option maxRecDepth 100000
set_option maxHeartbeats 16000000
namespace Go.Proofs.YtpdpbfmiahjiiaaGreat
open Go.RowKit
open _root_.Go.Proofs.Tryz renaming prog→η
open _root_.Bool renaming false→ρ
open _root_.Go renaming Value→ψ
open _root_.Nat renaming le_trans→Λ
def QT (p:Int × Int):List ψ:=[J p.1,J p.2]
theorem oW (H:Type):Row1 H η 30 QT (fun _ _=>True):=
 (jV Tryz.underlying30 (by kernel_rfl) (bZ (k:=1) (pF Tryz.underlying3) rfl (by kernel_rfl) (bZ (k:=1) (pF Tryz.underlying3) rfl (by kernel_rfl) (lr _)))).map
   (fun a=>(a.1,a.2.1)) (fun _=>rfl) (fun _ _ _=>trivial)
def U6 (d:Int × Int × Int):List ψ:=[J d.1,J d.2.1,J d.2.2]
theorem Ft (H:Type):Row1 H η 32 U6 (fun _ _=>True):=
 (jV Tryz.underlying32 (by kernel_rfl) (bZ (k:=2) (oW H) rfl (by kernel_rfl) (bZ (k:=1) (pF Tryz.underlying3) rfl (by kernel_rfl) (lr _)))).map
   (fun a=>(a.1.1,a.1.2,a.2.1)) (fun _=>rfl) (fun _ _ _=>trivial)
def Re (d:Int × Int × Int × Int × Int):List ψ:=[J d.1,J d.2.1,J d.2.2.1,J d.2.2.2.1,J d.2.2.2.2]
theorem uJ (H:Type):Row1 H η 34 Re (fun _ _=>True):=
 (jV Tryz.underlying34 (by kernel_rfl) (bZ (k:=2) (oW H) rfl (by kernel_rfl) (bZ (k:=3) (Ft H) rfl (by kernel_rfl) (lr _)))).map
   (fun a=>(a.1.1,a.1.2,a.2.1.1,a.2.1.2.1,a.2.1.2.2)) (fun _=>rfl) (fun _ _ _=>trivial)
theorem R8 (H:Type):Row1 H η 36 ak (fun _ o=>o.t.size≤maxLen):=
 (jV Tryz.underlying36 (by kernel_rfl) (bZ (k:=1) (pF Tryz.underlying3) rfl (by kernel_rfl) (bZ (k:=2) (oW H) rfl (by kernel_rfl) (bZ (k:=2) (oW H) rfl (by kernel_rfl) (bZ (k:=2) (oW H) rfl (by kernel_rfl)
   (bZ (k:=5) (uJ H) rfl (by kernel_rfl) (bZ (k:=5) (uJ H) rfl (by kernel_rfl) (bZ (k:=1) (I0 Tryz.underlying4) rfl (by kernel_rfl) (bZ (k:=1) (CY Tryz.underlying9) rfl (by kernel_rfl)
   (bZ (k:=1) (pF Tryz.underlying3) rfl (by kernel_rfl) (lr _))))))))))).map
   (fun a=>⟨a.1,a.2.1.1,a.2.1.2,a.2.2.1.1,a.2.2.1.2,a.2.2.2.1.1,a.2.2.2.1.2,a.2.2.2.2.1.1,a.2.2.2.2.1.2.1,a.2.2.2.2.1.2.2.1,a.2.2.2.2.1.2.2.2.1,a.2.2.2.2.1.2.2.2.2,
     a.2.2.2.2.2.1.1,a.2.2.2.2.2.1.2.1,a.2.2.2.2.2.1.2.2.1,a.2.2.2.2.2.1.2.2.2.1,a.2.2.2.2.2.1.2.2.2.2,a.2.2.2.2.2.2.1,a.2.2.2.2.2.2.2.1,a.2.2.2.2.2.2.2.2.1⟩) (fun _=>rfl) (fun _ _ h=>h.2.2.2.2.2.2.2.1)
theorem J0 (H:Type):Row1 H η 49 (Ay (α:=dR)) (TY 20 ak (fun _ o=>o.t.size≤maxLen)):=
 (jV Tryz.underlying49 (by kernel_rfl) (bZ (k:=1) (wm (R8 H) Tryz.underlying47 (by kernel_rfl) eB (by decide)) rfl (by kernel_rfl) (lr _))).map
   (fun a=>a.1) (fun _=>by simp) (fun _ _ h=>h.1)
theorem row1_sets (H:Type):Row1 H η 80 (fun a:ByteArray × Int × Bool=>[.string a.1,J a.2.1,.bool a.2.2]) (fun _ a=>a.1.size≤maxLen):=
 (jV Tryz.underlying80 (by kernel_rfl) (bZ (k:=1) (CY Tryz.underlying9) rfl (by kernel_rfl) (bZ (k:=1) (pF Tryz.underlying3) rfl (by kernel_rfl) (bZ (k:=1) (I0 Tryz.underlying4) rfl (by kernel_rfl) (lr _))))).map
   (fun a=>(a.1,a.2.1,a.2.2.1)) (fun _=>rfl) (fun _ _ h=>h.1)
section
open Go.ChangeShapes Go.WideShapes Go.ChangeAt Go.RowKit
namespace lawEditSets
theorem contract (H:Type) (enc:TypeId × ψ→H) (W:World) (base:Nat) (args:Array ψ) (ds gs:List (DataW H)) (before:List MemPlace)
 (PY:∀(j:Nat) t v,Tryz.f9.params[j]? =some t→args[j]? =some v→Value.okWide η W .any base t v)
 (hW:DataW.Whole enc η Tryz.f9.params.toList Rows.editSetsSpec.vars ρ W args.toList ds gs before):
 Calls η 9 args W fun e W'=>∃v,e=.returned v∧Rows.editSetsSpec.post enc η Tryz.f9 ρ true ρ ρ W args v W':=by
 have hW':=hW;obtain⟨p,q,hA,hV,rfl,hfz,AK⟩:=hW;obtain⟨rfl,rfl⟩:=trodVars_none hV;rw[Tryz.params9] at hA PY;obtain⟨v0,v1,v2,d0,d1,d2,p0,p1,p2,rfl,rfl,rfl,h0,h1,h2⟩:=trodAll_three hA;obtain⟨l,rfl,lQ⟩:=uT (J0 H) Tryz.underlying44 (by kernel_rfl) (fun _=>rfl) (by decide) (PY 0 44 v0 rfl rfl) h0;obtain⟨x,rfl,jq⟩:=open_row1_struct (oW H) Tryz.underlying30 (PY 1 30 v1 rfl rfl) h1;obtain⟨y,rfl,uU⟩:=open_row1_struct (row1_sets H) Tryz.underlying80 (PY 2 80 v2 rfl rfl) h2
 refine(law_sets l.1 l.2.1 l.2.2.1 l.2.2.2 x.1 x.2 y.1 y.2.1 y.2.2 W ⟨lQ.2.1,Λ lQ.2.1.le lQ.1,fun e q=>⟨(lQ.2.2 e q).2.1,Λ (lQ.2.2 e q).2.1.le (lQ.2.2 e q).1,(lQ.2.2 e q).2.2⟩⟩ uU).mono fun e W' ⟨he,hb⟩=>⟨_,he,?_⟩
 exact NF Tryz.laidOut (by kernel_rfl) (tb:=4) (by kernel_rfl) Tryz.underlying4 rfl ⟨rfl,rfl,rfl⟩ hW' hb
theorem lifted (os:Os) (started:os.Started) (H:Type) (enc:TypeId × ψ→H):
 ReturnsInHanded {} Tryz.checked os 9 .any (Rows.editSetsSpec.pre6 enc η Tryz.f9 Rows.editSetsRow.domain ρ) (Rows.editSetsSpec.post enc η Tryz.f9 ρ true ρ ρ):=by
 refine returnsInHanded_of_change (C:=Tryz.checked) Tryz.own started (by kernel_rfl) Tryz.func9
  (ChangeSpec.witness6 (enc:=enc) (C:=Tryz.checked) ρ ⟨#[],#[.slice none 0 0,.agg #[J 0,J 0],.agg #[.string ⟨#[]⟩,J 0,.bool ρ]],[]⟩ 8 (by kernel_rfl) (by kernel_rfl) (by kernel_rfl) (by kernel_rfl)) ?_
 intro W base args ds gs before PY hW _ _;exact contract H enc W base args ds gs before PY hW
theorem proved:Rows.EditSetsSaid:=
 OpenClaim.holds_of_wide 9 Tryz.f9 rfl rfl rfl rfl rfl rfl rfl ⟨rfl,rfl,rfl,rfl,rfl⟩ rfl rfl rfl rfl rfl (by kernel_rfl) Tryz.func9 (by kernel_rfl)
  (of_decide_eq_true (by kernel_rfl)) (by unfold Func.isWrapper;first|(rw[if_pos (by decide+kernel)];kernel_rfl)|(rw[if_neg (by decide+kernel)];exact⟨rfl,rfl⟩))
  (fun os started H enc _=>lifted os started H enc)
end lawEditSets
end
end Go.Proofs.YtpdpbfmiahjiiaaGreat
