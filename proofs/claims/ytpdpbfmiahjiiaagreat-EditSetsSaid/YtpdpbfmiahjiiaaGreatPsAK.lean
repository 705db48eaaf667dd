/- Several texts in one. -/
import Derived.Test.YtpdpbfmiahjiiaaGreatPsAA
import Derived.Test.YtpdpbfmiahjiiaaGreatPsAB
import Derived.Test.YtpdpbfmiahjiiaaGreatPsAC
import Derived.Test.YtpdpbfmiahjiiaaGreatPsAD
import Derived.Test.YtpdpbfmiahjiiaaGreatPsAE
import Derived.Test.YtpdpbfmiahjiiaaGreatPsAH
import Derived.Test.YtpdpbfmiahjiiaaGreatPsAI
import Derived.Test.YtpdpbfmiahjiiaaGreatPsAJ
import Derived.BigQuiet
import Derived.Deep.QuietTactic
import Derived.Deep.RegionHeld3
import Derived.Lib.Hide
import Derived.WalkKit
set_option linter.unusedSectionVars false
set_option linter.unusedSimpArgs false
set_option linter.unusedVariables false
set_option maxRecDepth 100000
set_option maxHeartbeats 16000000
namespace Go.Proofs.YtpdpbfmiahjiiaaGreat
open Go.RowKit
open _root_.Go.Value renaming slice→γ,string→μ,agg→φ,bool→Β,slice→Ο
open _root_.Go.Obj renaming cells→δ
open _root_.Option renaming none→ε,some→ζ
open _root_.Go.Proofs.Tryz renaming prog→η
open _root_.List renaming map_cons→ι,mem_map→Α,length_map→Ρ,all_eq_true→Φ,mem_flatMap→Jat,map_map→JaW,pairwise_map→Jbg
open _root_.Go.Act renaming put→ξ
open _root_.Go renaming World→ο,Value→ψ,Calls→Ζ,Addr→Κ,TypeId→Υ
open _root_.Bool renaming false→ρ,true→τ,and_eq_true→Jar
open _root_.Go.RowKit renaming Below→σ
open _root_.Nat renaming le_refl→Δ,le_trans→Λ,lt_of_lt_of_le→JaK
open _root_.Go.RowKit.Below renaming refl→Θ
open _root_.Option.some renaming inj→Μ
open _root_.Go.IntKind renaming i64→Jaw
open _root_.Go.Builtin renaming append_→JaY
theorem Ev:(η.info? 32).map (fun i=>(i.zero,i.size,i.bytes))=ζ (ζ (φ #[J 0,J 0,J 0]),3,24):=by kernel_rfl
theorem sM {W:ο} {B B' n:Nat} {e:Υ} {size:Nat} {v:ψ} {xs:List ψ} (h:W.ownsRow B e size v n xs) (hB:B'≤B):W.ownsRow B' e size v n xs:=by
 refine⟨h.1,?_⟩
 rcases h.2 with hn|⟨g,cap,cur,h1,hb,rest⟩
 ·exact .inl hn
 ·exact .inr ⟨g,cap,cur,h1,Λ hB hb,rest⟩
theorem vD {P:Program} (W:ο) (t ty e:Υ) (i:TypeInfo) (z:ψ) (size bytes:Nat) (ht:P.underlying t=ζ (.slice e)) (hi:P.info? e=ζ i) (hz:i.zero=ζ z) (fK:i.size=size) (vA:i.bytes=bytes) (vK:z.cells.size=size) (Ye:0<size)
 (A:Option Κ) (m c:Nat) (news:List ψ) (hr:bg W W.heap.size size A m c news) (h1:∀u∈news,u.oneCell'=τ) (hm:m≤1000000) (hb:bytes≤100):
 ∃A' c' W',(JaY #[t,t] ty #[γ (ζ ⟨W.heap.size,0,ε⟩) 0 0,γ A m c]).run P (W.alloc (δ #[] e))=.ok (γ A' m c') W'∧W'.ownsRow W.heap.size e size (γ A' m c') m news∧σ W.heap.size W W':=by
 have iC:Ow W W.heap.size e size (γ (ζ ⟨W.heap.size,0,ε⟩) 0 0) 0 [] (W.alloc (δ #[] e)):=⟨World.ownsRow_made W #[] 0 (Δ _) (Nat.zero_le _) (by simp),aI (Θ _ W) _,Δ _,by simp⟩;have Vd:(0+m)*bytes≤140737488355328:=Λ (Nat.mul_le_mul_left _ hb) (by omega);obtain⟨v',W',bV,ho,aP,hg,-⟩:=Ow.app2 (P:=P) t ty e i z size bytes W.heap.size ht hi hz fK vA vK Ye _ _ _ iC _ A m c news (hr.al (δ #[] e)) h1 (by unfold maxLen;omega) Vd;rw[Nat.zero_add,List.nil_append] at ho;obtain⟨A',c',rfl,-⟩:=ho.rds;exact⟨A',c',W',bV,ho.own,ho.below⟩
structure uz (W:ο) (lo:Nat) (A:Option Κ) (n c:Nat) (Ws:List VC) (B:Option Κ) (m k:Nat) (Es:List EC):Prop where
 v:W.ownsRow lo 59 5 (γ A n c) n (ah vC Ws)
 e:W.ownsRow lo 67 4 (γ B m k) m (ah eC Es)
 r:∀x∈Ws,W.ownsRow lo 32 3 (γ x.2.1.1 x.2.1.2.1 x.2.1.2.2.1) x.2.1.2.1 (aA x.2.1.2.2.2)
section
variable {W W':ο} {lo:Nat} {A:Option Κ} {n c:Nat} {Ws:List VC} {B:Option Κ} {m k:Nat} {Es:List EC}
theorem uz.bl (h:uz W lo A n c Ws B m k Es) (hb:σ W.heap.size W W'):uz W' lo A n c Ws B m k Es:=⟨bo h.v hb,bo h.e hb,fun x hx=>bo (h.r x hx) hb⟩
theorem uz.al (h:uz W lo A n c Ws B m k Es) (o:Obj):uz (W.alloc o) lo A n c Ws B m k Es:=h.bl (az W o)
theorem uz.wr (h:uz W lo A n c Ws B m k Es):Wr W lo A n c Ws B m k Es:=⟨h.v,aK h.e,fun x hx=>⟨nB (h.r x hx),aK (h.r x hx)⟩⟩
theorem uz.far (h:uz W lo A n c Ws B m k Es) {g i:Nat} {T:Υ} {cs:List ψ} (hw:Whole W g T cs) (h1:T≠59) (h2:T≠67) (h3:T≠32) (u:ψ):uz (W.setCell ⟨g,i,ε⟩ u) lo A n c Ws B m k Es:=
 ⟨aT h.v (bD h.v hw h1) u,aT h.e (bD h.e hw h2) u,fun x hx=>aT (h.r x hx) (bD (h.r x hx) hw h3) u⟩
theorem uz.far2 (h:uz W lo A n c Ws B m k Es) {g i:Nat} {cs:List ψ} (hw:Whole W g 59 cs) (hv:ζ g≠(Ο A n c).ownBlock) (u:ψ):uz (W.setCell ⟨g,i,ε⟩ u) lo A n c Ws B m k Es:=
 ⟨aT h.v hv u,aT h.e (bD h.e hw (by decide)) u,fun x hx=>aT (h.r x hx) (bD (h.r x hx) hw (by decide)) u⟩
theorem uz.lo_ (h:uz W lo A n c Ws B m k Es) {lo':Nat} (hl:lo'≤lo):uz W lo' A n c Ws B m k Es:=by
 have q:∀{e:Υ} {s:Nat} {v:ψ} {j:Nat} {xs:List ψ},W.ownsRow lo e s v j xs→W.ownsRow lo' e s v j xs:=fun h=>by
  refine⟨h.1,?_⟩
  rcases h.2 with hn|⟨g,cap,cur,h1,hb,rest⟩
  ·exact .inl hn
  ·exact .inr ⟨g,cap,cur,h1,Λ hl hb,rest⟩
 exact⟨q h.v,q h.e,fun x hx=>q (h.r x hx)⟩
theorem uz.push {P:Program} (h:uz W lo A n c Ws B m k Es) (x:VC) (hx:W.ownsRow lo 32 3 (γ x.2.1.1 x.2.1.2.1 x.2.1.2.2.1) x.2.1.2.1 (aA x.2.1.2.2.2)) (t ty:Υ) (i:TypeInfo) (z:ψ) (ht:P.underlying t=ζ (.slice 59)) (hi:P.info? 59=ζ i) (hz:i.zero=ζ z) (fK:i.size=5) (vA:i.bytes=64) (vK:z.cells.size=5)
 (hn:n≤1000000) (fw:lo≤W.heap.size) (g:Nat) (hr:bg W W.heap.size 5 (ζ ⟨g,0,ε⟩) 1 1 (vC x)):
 ∃A' c' W',(JaY #[t,t] ty #[γ A n c,γ (ζ ⟨g,0,ε⟩) 1 1]).run P W=.ok (γ A' (n+1) c') W'∧uz W' lo A' (n+1) c' (Ws++[x]) B m k Es∧σ lo W W'∧W.grownBy W' (Ο A n c).ownBlock:=by
 obtain⟨v',W2,bV,gh,hg,FZ,hb⟩:=run_append_own_at (P:=P) W lo t ty 59 i z 5 64 ht hi hz fK vA vK (by decide) _ n _ h.v ⟨g,0,ε⟩ 1 1 _ hr.len (hr.cell _ rfl) (nQ x) (by unfold maxLen;omega) (by omega) fw;have hk:∀k,(Ο A n c).ownBlock=ζ k→lo≤k:=fun k hk=>(h.v.lt k hk).1
 obtain⟨A',c',rfl,_⟩:=bg.of_own gh;have e:ah vC Ws++vC x=ah vC (Ws++[x]):=by rw[bY];simp[ah]
 rw[e] at gh
 have keep:∀{T:Υ} {s:Nat} {v:ψ} {j:Nat} {xs:List ψ},W.ownsRow lo T s v j xs→59≠T→W2.ownsRow lo T s v j xs:=fun {T s v j xs} ho hT=>ho.kept hg (by
  cases hv:v.ownBlock with
  |none=>exact .inl rfl
  |some g=>exact .inr fun q=>jM h.v ho hT q.symm hv)
 refine⟨A',c',W2,bV,⟨gh,keep h.e (by decide),fun y hy=>?_⟩,(Θ lo W).grown hg fw hk,hg⟩
 rcases List.mem_append.1 hy with hy|hy
 ·exact keep (h.r y hy) (by decide)
 ·obtain rfl:=List.mem_singleton.1 hy;exact keep hx (by decide)
end
theorem Gd (A:Option Κ) (n c:Nat) (Vs:List VC) (B:Option Κ) (m k:Nat) (Es:List EC) (w:ο) (h:bz w A n c Vs B m k Es) (hn:n≤1000000) (hm:m≤1000000) (hr:∀x∈Vs,x.2.1.2.1≤1000000):
 Ζ η 23 #[φ #[γ A n c,γ B m k]] w fun e w'=>∃A' c' B' k' Ws,e=.returned (φ #[γ A' n c',γ B' m k'])∧uz w' w.heap.size A' n c' Ws B' m k' Es∧Ws.map vS=Vs.map vS∧σ w.heap.size w w':=by
 have HV:=qh h.v;have HE:=qh h.e;have sw:=qh h.r;have oG:=qh (h.v.rlen aS (by decide));have AL:=qh hr;obtain⟨iV,hiv,ag3,af0,adP⟩:=aW lP;obtain⟨iE,Ic,acQ,aep,adF⟩:=aW pK;obtain⟨iD,hid,agx,ad4,adS⟩:=aW Ev;clear h hr;go_enter Tryz.func23,Tryz.ntmps23;go_upto_region 1 with fail
 obtain⟨W0,b0,b1,bO,bp,dE,aQ,aL,bw,mQ,lZ,oa,uD,iP,uW⟩:=wT w 25 [γ A n c,γ B m k] 25 [γ ε 0 0,γ ε 0 0];rw[bO,dE,bp];clear bO bp dE;obtain⟨Be,ke,W1,bV,Ke,UG⟩:=vD (P:=η) W0 23 23 67 iE _ 4 40 Tryz.underlying23 Ic acQ aep adF rfl (by decide) B m k _ (HE.out.bl bw.out) (p7 eC nr Es) hm (by decide);have c1:=(aQ.out.al (δ #[] 67)).cell (i:=1) rfl
 go_wp2_with (first
  |(at_builtin
    refine pC (ζ 9) rfl (by rfl) (dt (by rfl) (by rfl) (by rfl) bV) ?_))
 have eF:=qh ((aQ.out.bl UG).al (δ #[γ ε 0 0,γ Be m ke] 25));have cK:=qh ((aL.out.bl UG).al (δ #[γ ε 0 0,γ Be m ke] 25));have Dz:=qh (Whole.new2 (w:=W1) (t:=25) (cs:=[γ ε 0 0,γ Be m ke]) rfl);have bE:=qh (aI (ag bw.out UG) (δ #[γ ε 0 0,γ Be m ke] 25));have EF:Hid (uz (W1.alloc (δ #[γ ε 0 0,γ Be m ke] 25)) w.heap.size ε 0 0 [] Be m ke Es):=qh ⟨World.ownsRow_nil _ _ _ _,bo (sM Ke bw.out.size) (az _ _),fun x hx=>(by cases hx)⟩;have Hb3:Hid (w.heap.size≤W1.heap.size):=qh (by have:=bw.out.size;have:=UG.size;omega);have aax:Hid (b0≠W1.heap.size):=qh (by have:=(aQ.out.bl UG).lt;omega);have ZU:Hid (b1≠W1.heap.size):=qh (by have:=(aL.out.bl UG).lt;omega);clear bV Ke UG c1;obtain⟨W2,eU⟩:=aB (W1.alloc (δ #[γ ε 0 0,γ Be m ke] 25));obtain⟨b3,Z6⟩:=aB W1.heap.size;rw[eU] at eF cK Dz bE EF ⊢;rw[Z6] at Dz Hb3 aax ZU ⊢;clear eU Z6 aQ aL bw mQ;go_loopw [4] (fun si wr=>∃(j:Nat) (A2:Option Κ) (c2:Nat) (Ws:List VC),j≤n∧si=J j∧Hid (σ w.heap.size w wr)∧Hid (Whole wr b0 25 [γ A n c,γ B m k])∧Hid (Whole wr b1 25 [γ ε 0 0,γ ε 0 0])∧Hid (Whole wr b3 25 [γ A2 j c2,γ Be m ke])∧Hid (uz wr w.heap.size A2 j c2 Ws Be m ke Es)∧Hid (Ws.map vS=(Vs.take j).map vS)) (fun si _=>n - (intOf si).toNat)
 case atStart=>exact⟨0,ε,0,[],by omega,rfl,bE,eF,cK,Dz,EF,qh rfl⟩
 case round=>
  clear bE eF cK Dz EF;obtain⟨j,A2,c2,Ws,hj,rfl,HB,aQ,aL,cF,HC,HM⟩:=hrel;obtain⟨wo,cS⟩:=aB wr;rw[cS] at HB aQ aL cF HC ⊢;clear cS;have cb:=aQ.out.cell (i:=0) rfl
  by_cases nT:j<n
  ·obtain⟨v,hx⟩:∃v,Vs[j]? =ζ v:=⟨_,List.getElem?_eq_getElem (by have:=oG.out;omega)⟩
   have hMn:(Vs.take (j+1)).map vS=(Vs.take j).map vS++[vS v]:=by
    rw[List.take_add_one,hx];simp
   have xM:=List.mem_of_getElem? hx;have uH:=sw.out v xM;have kc:=AL.out v xM;obtain⟨bb,off,rfl,aY,a8⟩:=HV.out.place aS (by decide) (by omega);have bC:=HB.out;have q0:=a8 j _ hx 0 _ rfl;have q1:=a8 j _ hx 1 _ rfl;have q2:=a8 j _ hx 2 _ rfl;have q3:=a8 j _ hx 3 _ rfl;have q4:=a8 j _ hx 4 _ rfl;simp only[Addr.add_lit,Nat.add_zero] at q0 q1 q2 q3 q4;have l0:=(bC.cell (p:=⟨bb,off+j*5,ε⟩) aY).trans q0;have l1:=(bC.cell (p:=⟨bb,off+j*5+1,ε⟩) aY).trans q1;have l2:=(bC.cell (p:=⟨bb,off+j*5+2,ε⟩) aY).trans q2;have l3:=(bC.cell (p:=⟨bb,off+j*5+3,ε⟩) aY).trans q3;have l4:=(bC.cell (p:=⟨bb,off+j*5+4,ε⟩) aY).trans q4;clear bC q0 q1 q2 q3 q4;obtain⟨⟨i1,i2⟩,⟨rA,rn,rc,rL⟩,lb,at_⟩:=v;replace kc:rn≤1000000:=kc;have HR:Hid (bg w w.heap.size 3 rA rn rc (aA rL)):=qh uH.2;have HMn:=qh hMn;clear hx hMn xM uH aY a8;go_upto_region 6 with fail
   clear cb l0 l1 l2 l3 l4;have bE:=qh (aI HB.out (δ #[J i1,J i2,γ rA rn rc,μ lb,J at_] 59));have eF:=qh (aQ.out.al (δ #[J i1,J i2,γ rA rn rc,μ lb,J at_] 59));have cK:=qh (aL.out.al (δ #[J i1,J i2,γ rA rn rc,μ lb,J at_] 59));have Dz:=qh (cF.out.al (δ #[J i1,J i2,γ rA rn rc,μ lb,J at_] 59));have EF:=qh (HC.out.al (δ #[J i1,J i2,γ rA rn rc,μ lb,J at_] 59));have mZ:=qh (Whole.new2 (w:=wo) (t:=59) (cs:=[J i1,J i2,γ rA rn rc,μ lb,J at_]) rfl);have HLy:Hid (w.heap.size≤wo.heap.size):=qh HB.out.size;have Hnv:Hid (ζ wo.heap.size≠(Ο A2 j c2).ownBlock):=qh (fun e=>by have:=(HC.out.v.lt _ e.symm).2;omega);obtain⟨W3,kh⟩:=aB (wo.alloc (δ #[J i1,J i2,γ rA rn rc,μ lb,J at_] 59));obtain⟨b5,FU⟩:=aB wo.heap.size;rw[kh] at bE eF cK Dz EF mZ ⊢;rw[FU] at mZ HLy Hnv ⊢;clear kh FU HB aQ aL cF HC;obtain⟨A8,c8,W4,bV,hor,QU⟩:=vD (P:=η) W3 57 57 32 iD _ 3 24 Tryz.underlying57 hid agx ad4 adS rfl (by decide) rA rn rc _ (HR.out.up bE.out bE.out.size) (im rL) kc (by decide);have d2:=(mZ.out.al (δ #[] 32)).cell (i:=2) rfl;have e2:=(mZ.out.bl QU).cell (i:=2) rfl;have f2:=(mZ.out.bl QU).free 2
   go_upto_region 7 with (first
    |(at_builtin
      refine pC (ζ 26) rfl (by rfl) (dt (by rfl) (by rfl) (by rfl) bV) ?_))
   clear d2 e2 f2;have FA:=qh (mZ.out.bl QU);have Um:=qh (eF.out.bl QU);have mN:=qh (cK.out.bl QU);have Ul:=qh (Dz.out.bl QU);have kC:=qh (ag bE.out QU);have HC4:=qh (EF.out.bl QU);have KQ:=qh (sM hor bE.out.size);clear bV hor QU bE eF cK Dz EF mZ;have TI:=qh (FA.out.set_ 2 (γ A8 rn c8));have Rn:=qh (Um.out.set_far' (i:=2) (Um.out.ne_ FA.out (by decide)) (γ A8 rn c8));have RP:=qh (mN.out.set_far' (i:=2) (mN.out.ne_ FA.out (by decide)) (γ A8 rn c8));have ND:=qh (Ul.out.set_far' (i:=2) (Ul.out.ne_ FA.out (by decide)) (γ A8 rn c8));have kF:=qh (kC.out.setCell (p:=⟨b5,2,ε⟩) HLy.out (γ A8 rn c8));have XU:=qh (HC4.out.far2 (i:=2) FA.out Hnv.out (γ A8 rn c8));have BE:=qh (aT (i:=2) KQ.out (bD KQ.out FA.out (by decide)) (γ A8 rn c8));obtain⟨W5,sC⟩:=aB (W4.setCell ⟨b5,2,ε⟩ (γ A8 rn c8));rw[sC] at TI Rn RP ND kF XU BE ⊢;clear sC FA Um mN Ul kC HC4 KQ;replace TI:Hid (Whole W5 b5 59 (vC ((i1,i2),(A8,rn,c8,rL),lb,at_))):=TI;have c3:=ND.out.cell (i:=0) rfl;refine wp_region_lit ?_;refine a7 (v:=?_) (ζ 28) rfl (by rfl) ?_ ?_;rotate_left
   ·go_simp;(try with_reducible rfl)
   simp only[ξ,aw,ar,aq];refine a7 (v:=?_) (ζ 29) rfl (by rfl) ?_ ?_;rotate_left
   ·go_simp;(try with_reducible rfl)
   simp only[ξ,aw,ar,aq];refine eJ (ζ 30) rfl (by rfl) 59 (.tmp 5) rfl (b5) rfl 59 (vC ((i1,i2),(A8,rn,c8,rL),lb,at_)) _ TI.out Tryz.underlying59 rfl (by kernel_rfl) ?_;simp only[ξ,aw,ar,aq];clear c3;refine gS (ζ 31) rfl (by rfl) 22 59 1 #[(0,.tmp 30)] (by rfl) Tryz.underlying22 (vC ((i1,i2),(A8,rn,c8,rL),lb,at_)).toArray (by kernel_rfl) ?_;simp only[ξ,aw,ar,aq];obtain⟨A9,c9,W6,bV,hC6,oE,x7⟩:=(XU.out.al (δ (vC ((i1,i2),(A8,rn,c8,rL),lb,at_)).toArray 59)).push (P:=η) ((i1,i2),(A8,rn,c8,rL),lb,at_) (bo BE.out (az _ _)) 22 22 iV _ Tryz.underlying22 hiv ag3 af0 adP rfl (by omega) (by have:=kF.out.size;simp;omega) W5.heap.size (bg.of_whole (Whole.new2 rfl) rfl);refine pC (ζ 32) rfl (by rfl) (dt (by rfl) (by rfl) (by rfl) bV) ?_;simp only[ξ,aw,ar,aq];have n0:=bD XU.out.v Rn.out (by decide);have n1:=bD XU.out.v RP.out (by decide);have n3:=bD XU.out.v ND.out (by decide);have ac0:=qh ((Rn.out.al (δ (vC ((i1,i2),(A8,rn,c8,rL),lb,at_)).toArray 59)).grown x7 n0);have aen:=qh ((RP.out.al (δ (vC ((i1,i2),(A8,rn,c8,rL),lb,at_)).toArray 59)).grown x7 n1);have QK:=qh ((ND.out.al (δ (vC ((i1,i2),(A8,rn,c8,rL),lb,at_)).toArray 59)).grown x7 n3);have s7:Hid (σ w.heap.size w W6):=qh ((aI kF.out (δ (vC ((i1,i2),(A8,rn,c8,rL),lb,at_)).toArray 59)).trans oE);have tm:=qh hC6;clear bV hC6 oE x7 n0 n1 n3 TI Rn RP ND kF XU BE
   have c3:=QK.out.cell (i:=0) rfl;have f3:=QK.out.free 0;have LV:=qh (ac0.out.set_far' (i:=0) aax.out (γ A9 (j+1) c9));have agq:=qh (aen.out.set_far' (i:=0) ZU.out (γ A9 (j+1) c9));have agh:=qh (QK.out.set_ 0 (γ A9 (j+1) c9));have tM:=qh (s7.out.setCell (p:=⟨b3,0,ε⟩) Hb3.out (γ A9 (j+1) c9));have KE:=qh (tm.out.far (i:=0) QK.out (by decide) (by decide) (by decide) (γ A9 (j+1) c9));have WX:Hid ((Ws++[((i1,i2),(A8,rn,c8,rL),lb,at_)]).map vS=(Vs.take (j+1)).map vS):=qh (by rw[HMn.out,List.map_append,HM.out];rfl);clear HM HMn;go_wp2;go_roundw
   case rel=>exact⟨j+1,A9,c9,_,by omega,by go_num,tM,LV,agq,agh,KE,WX⟩
   case measure=>simp[intOf];omega
  ·obtain rfl:n=j:=by omega
   have hM:=HM.out;rw[List.take_of_length_le (by have:=oG.out;omega)] at hM;have jq:=(aL.out.set_ 0 (γ A2 n c2)).set_ 1 (γ Be m ke);have DO:=(HC.out.far (i:=0) aL.out (by decide) (by decide) (by decide) (γ A2 n c2)).far (i:=1) (aL.out.set_ 0 (γ A2 n c2)) (by decide) (by decide) (by decide) (γ Be m ke);have cP:=(HB.out.setCell (p:=⟨b1,0,ε⟩) iP.out (γ A2 n c2)).setCell (p:=⟨b1,1,ε⟩) iP.out (γ Be m ke);have e0:=cF.out.cell (i:=0) rfl;have e1:=cF.out.cell (i:=1) rfl;have f0:=aL.out.free 0;have f1:=aL.out.free 1;have k0:=aL.out.cell (i:=0) rfl;have k1:=aL.out.cell (i:=1) rfl;have Yn:=qh (show ∃A' c' B' k' Us,(Ending.returned (φ #[γ A2 n c2,γ Be m ke]))=.returned (φ #[γ A' n c',γ B' m k'])∧uz _ w.heap.size A' n c' Us B' m k' Es∧Us.map vS=Vs.map vS∧σ w.heap.size w _ from⟨A2,c2,Be,ke,Ws,rfl,DO,hM,cP⟩);have Hx1:=qh jq;clear jq hM DO cP HC HM HB aQ aL cF;go_wp2;exact dO rfl b1 rfl Hx1.out Tryz.underlying25 rfl (by kernel_rfl) rfl Yn.out
theorem CG:∀(Us Ws:List VC) (f:D→Option D),Us.map (fun v=>v.2.1.2.2.2)=Ws.map (fun v=>v.2.1.2.2.2)→xJ Us f=xJ Ws f
 |[],[],_,_=>rfl
 |[],_::_,_,h=>by cases h
 |_::_,[],_,h=>by cases h
 |u::r,v::s,f,h=>by
  rw[ι,ι] at h;injection h with h1 h2
  rw[xJ,xJ,h1];exact CG r s _ h2
theorem Jt {Us Ws:List VC} (h:Us.map vS=Ws.map vS):gi Us=gi Ws:=by
 have h1:=congrArg (List.map (fun s:(Int × Int) × List D × ByteArray × Int=>s.2.1)) h;rw[JaW,JaW] at h1;exact CG Us Ws _ h1
theorem K5 {Us Ws:List VC} (h:Us.map vS=Ws.map vS):fQ Us=fQ Ws:=by
 funext y
 rw[fQ,fQ,iO,iO,Jt h]
theorem uz.pushE {P:Program} {W:ο} {lo:Nat} {A:Option Κ} {n c:Nat} {Ws:List VC} {B:Option Κ} {m k:Nat} {Es:List EC} (h:uz W lo A n c Ws B m k Es) (x:EC) (t ty:Υ) (i:TypeInfo) (z:ψ) (ht:P.underlying t=ζ (.slice 67)) (hi:P.info? 67=ζ i) (hz:i.zero=ζ z) (fK:i.size=4) (vA:i.bytes=40) (vK:z.cells.size=4)
 (hn:m≤1000000) (fw:lo≤W.heap.size) (g:Nat) (hr:bg W W.heap.size 4 (ζ ⟨g,0,ε⟩) 1 1 (eC x)):
 ∃B' k' W',(JaY #[t,t] ty #[γ B m k,γ (ζ ⟨g,0,ε⟩) 1 1]).run P W=.ok (γ B' (m+1) k') W'∧uz W' lo A n c Ws B' (m+1) k' (Es++[x])∧σ lo W W'∧W.grownBy W' (Ο B m k).ownBlock:=by
 obtain⟨v',W2,bV,gh,hg,FZ,hb⟩:=run_append_own_at (P:=P) W lo t ty 67 i z 4 40 ht hi hz fK vA vK (by decide) _ m _ h.e ⟨g,0,ε⟩ 1 1 _ hr.len (hr.cell _ rfl) (nr x) (by unfold maxLen;omega) (by omega) fw;have hk:∀k',(Ο B m k).ownBlock=ζ k'→lo≤k':=fun k' hk=>(h.e.lt k' hk).1
 obtain⟨B',k',rfl,_⟩:=bg.of_own gh;have e:ah eC Es++eC x=ah eC (Es++[x]):=by rw[bY];simp[ah]
 rw[e] at gh
 have keep:∀{T:Υ} {s:Nat} {v:ψ} {j:Nat} {xs:List ψ},W.ownsRow lo T s v j xs→67≠T→W2.ownsRow lo T s v j xs:=fun {T s v j xs} ho hT=>ho.kept hg (by
  cases hv:v.ownBlock with
  |none=>exact .inl rfl
  |some g=>exact .inr fun q=>jM h.e ho hT q.symm hv)
 exact⟨B',k',W2,bV,⟨keep h.v (by decide),gh,fun y hy=>keep (h.r y hy) (by decide)⟩,(Θ lo W).grown hg fw hk,hg⟩
theorem wY (Ws:List VC):bF Ws=((Ws.map vS).filter fun s=>decide (s.2.1=[])).length:=by
 rw[List.filter_map,Ρ];rfl
theorem Mv {Us Ms:List VC} (h:Us.map vS=Ms.map vS) (i:Nat) (y:I2):Pj Us i y→Pj Ms i y:=by
 rintro⟨u,hu,x,hx,e⟩;have hi:=congrArg (fun L:List ((Int × Int) × List D × ByteArray × Int)=>L[i]?) h;simp only[List.getElem?_map] at hi;rw[hu] at hi;cases hv:Ms[i]? with
 |none=>rw[hv] at hi;cases hi
 |some v=>
  rw[hv] at hi;have e1:vS u=vS v:=Μ hi;have e2:u.2.1.2.2.2=v.2.1.2.2.2:=congrArg (fun s:(Int × Int) × List D × ByteArray × Int=>s.2.1) e1;exact⟨v,hv,x,e2▸hx,e⟩
section
variable {Vs Us:List VC} {Es:List EC}
theorem LN (h:Us.map vS=Vs.map vS):eM Us Es=eM Vs Es:=by
 have hl:Us.length=Vs.length:=by simpa using congrArg List.length h
 have h1:kp Us Es=kp Vs Es:=by unfold kp;rw[K5 h]
 have h2:bF Us=bF Vs:=by rw[wY,h,←wY]
 have h3:dm Us=dm Vs:=zA hl (fun i y=>⟨Mv h i y,Mv h.symm i y⟩);unfold eM;rw[h1,h2,h3,hl]
end
structure gD (S:SS):Prop where
 fit:dx S
 v24:S.1.length≤24
 e40:S.2.1.length≤40
 g400:S.2.2.length≤400
 vm:∀v∈S.1,dK v.1.1 v.1.2=τ∧cQ v.2.2.1=τ∧eR v.2.2.2=τ
 em:∀e∈S.2.1,dK e.1.1 e.1.2=τ∧cQ e.2.1=τ∧eR e.2.2=τ
 gr:cT S.2.2
theorem dy:gD dv:=⟨⟨List.Pairwise.nil,List.Pairwise.nil,List.nodup_nil,fun v h=>(by cases h),fun v h=>(by cases h),fun v h=>(by cases h)⟩,by decide,by decide,by decide,fun v h=>(by cases h),fun v h=>(by cases h),trivial⟩
theorem Gz {L:List Nm} (h:L.Pairwise (fun a b=>dW a b<0)) (hm:∀x∈L,dK x.1 x.2=τ):fA ε L=τ:=(fS L ε).2 ⟨hm,fun y h=>(by cases h),h⟩
theorem dN (Vs:List VC):ao Vs=(Vs.map vS).flatMap (fun v=>v.2.1):=(Qq Vs).symm
theorem gD.formed {S:SS} (h:gD S) {Vs:List VC} (e:Vs.map vS=S.1):aG Vs S.2.1:=by
 have hk:Vs.map (·.1)=S.1.map (·.1):=by rw[←e,iB]
 have hr:ao Vs=S.1.flatMap (fun v=>v.2.1):=by rw[dN,e]
 have QV:Vs.length=S.1.length:=by rw[←e,Ρ]
 have hm:∀v∈Vs,vS v∈S.1:=fun v hv=>e▸Α.2 ⟨v,hv,rfl⟩
 refine⟨by rw[QV];exact h.v24,h.e40,?_,?_,?_,?_,?_,?_,?_,?_⟩
 ·rw[hk];refine Gz (Jbg.2 h.fit.vup) (fun x hx=>?_);obtain⟨v,hv,rfl⟩:=Α.1 hx;exact(h.vm v hv).1
 ·refine Gz (Jbg.2 h.fit.eup) (fun x hx=>?_);obtain⟨v,hv,rfl⟩:=Α.1 hx;exact(h.em v hv).1
 ·exact Φ.2 (fun v hv=>decide_eq_true (h.fit.turned _ (hm v hv)).symm)
 ·rw[hr]
  refine(List.perm_ext_iff_of_nodup h.fit.once (kP _ [] List.nodup_nil)).2 (fun d=>?_)
  rw[jL];constructor
  ·intro hd;obtain⟨v,hv,hd⟩:=Jat.1 hd;obtain⟨h1,h2⟩:=h.fit.known v hv d hd;obtain⟨e,he,e1⟩:=db.1 h1;refine .inr ⟨e,he,?_⟩;have e1:e.1=(d.1,d.2.1):=e1;obtain⟨a,b,c⟩:=d;rw[e1];rcases h2 with h2|h2
   ·exact .inl (congrArg (fun z=>(a,b,z)) h2)
   ·exact .inr (congrArg (fun z=>(a,b,z)) h2)
  ·rintro (hd|⟨e,he,hd⟩)
   ·cases hd
   ·obtain⟨h1,h2⟩:=h.fit.ends e he;rcases hd with rfl|rfl
    ·obtain⟨v,hv,hd⟩:=cn.1 h1;exact Jat.2 ⟨v,hv,hd⟩
    ·obtain⟨v,hv,hd⟩:=cn.1 h2;exact Jat.2 ⟨v,hv,hd⟩
 ·exact Φ.2 (fun v hv=>(h.vm _ (hm v hv)).2.1)
 ·exact Φ.2 (fun v hv=>(h.em _ hv).2.1)
 ·exact Φ.2 (fun v hv=>(h.vm _ (hm v hv)).2.2)
 ·exact Φ.2 (fun v hv=>(h.em _ hv).2.2)
theorem aG.ok {Vs:List VC} {Es:List EC} (h:aG Vs Es) {G:List Gn} (hg:G.length≤400) (hr:cT G):gD (Vs.map vS,Es,G):=by
 have hv:=(fS _ _).1 h.rv;have he:=(fS _ _).1 h.re;have hm:∀v∈Vs.map vS,∃u∈Vs,vS u=v:=fun v hv=>Α.1 hv
 refine⟨⟨?_,?_,?_,fun v hv=>?_,fun v hv d hd=>?_,fun e hE=>?_⟩,by rw[Ρ];exact h.v24,h.e40,hg,fun v hV=>?_,fun e hE=>?_,hr⟩
 ·exact Jbg.1 (iB Vs▸hv.2.2)
 ·exact Jbg.1 he.2.2
 ·exact dN Vs▸h.once
 ·obtain⟨u,hu,rfl⟩:=hm v hv;exact(of_decide_eq_true (Φ.1 h.tu u hu)).symm
 ·obtain⟨u,hu,rfl⟩:=hm v hv;obtain⟨e,hE,e1,e2⟩:=(h.mem d).1 (Jat.2 ⟨u,hu,hd⟩);exact⟨db.2 ⟨e,hE,e1⟩,e2⟩
 ·have k:∀s:Int,s=0∨s=1→bX (Vs.map vS) (bh e.1 s)=τ:=fun s hs=>by
   obtain⟨v,hv,hd⟩:=Jat.1 ((h.mem (bh e.1 s)).2 ⟨e,hE,rfl,hs⟩);exact cn.2 ⟨vS v,Α.2 ⟨v,hv,rfl⟩,hd⟩
  exact⟨k 0 (.inl rfl),k 1 (.inr rfl)⟩
 ·obtain⟨u,hu,rfl⟩:=hm v hV;exact⟨hv.1 u.1 (Α.2 ⟨u,hu,rfl⟩),Φ.1 h.lv u hu,Φ.1 h.av u hu⟩
 ·exact⟨he.1 e.1 (Α.2 ⟨e,hE,rfl⟩),Φ.1 h.le e hE,Φ.1 h.ae e hE⟩
theorem Qg {a b:Int} (h:dK a b=τ):1≤a∧a≤8∧1≤b∧b≤1048576:=of_decide_eq_true h
theorem yN {t:ByteArray} (h:cQ t=τ):t.size≤16:=by
 unfold cQ at h;rw[Jar] at h;exact of_decide_eq_true h.1
theorem vF {n:Int} (h1:0≤n) (h2:n≤1048576):(Lit.int .i64 n).wf=τ:=by
 have e1:Jaw.min= -9223372036854775808:=by decide
 have e2:Jaw.max=9223372036854775807:=by decide
 simp only[Lit.wf,e1,e2,Jar,decide_eq_true_eq];omega
theorem FC {x:Nm} {s:Int} (h:dK x.1 x.2=τ) (hs:s=0∨s=1):su (x.1,x.2,s):=by
 obtain⟨h1,h2,h3,h4⟩:=Qg h;exact⟨vF (show 0≤x.1 by omega) (show x.1≤_ by omega),vF (show 0≤x.2 by omega) (show x.2≤_ by omega),vF (show 0≤s by omega) (show s≤_ by omega)⟩
theorem gD.good {S:SS} (h:gD S) {Vs:List VC} (e:Vs.map vS=S.1):mG Vs S.2.1:=by
 have hm:∀v∈Vs,vS v∈S.1:=fun v hv=>e▸Α.2 ⟨v,hv,rfl⟩
 refine⟨fun x hx d hd=>?_,fun e he=>⟨FC (h.em e he).1 (.inl rfl),FC (h.em e he).1 (.inr rfl)⟩,fun x hx=>?_,fun x hx=>?_⟩
 ·obtain⟨h1,h2⟩:=h.fit.known _ (hm x hx) d hd;obtain⟨e,he,e1⟩:=db.1 h1
  have:=FC (h.em e he).1 h2
  rw[e1] at this;exact this
 ·have:=yN (h.vm _ (hm x hx)).2.1
  have h2:x.2.2.1.size≤16:=this;exact Λ h2 (by decide)
 ·exact Λ (yN (h.em _ hx).2.1) (by decide)
def Rf (v:VS):VC:=(v.1,(ε,v.2.1.length,v.2.1.length,v.2.1),v.2.2)
theorem eH (V:List VS):(V.map Rf).map vS=V:=by
 rw[JaW];exact(List.map_congr_left (fun v _=>rfl)).trans (List.map_id V)
def eO (V:List VS) (E:List EC):Bool:=eM (V.map Rf) E==0
theorem wL (Vs:List VC) (E:List EC):eO (Vs.map vS) E=(eM Vs E==0):=by
 unfold eO;rw[LN (eH _)]
theorem gD.short {S:SS} (h:gD S):∀v∈S.1,v.2.1.length≤80:=fun v hv=>by
 have h1:=(h.formed (eH S.1)).l80;rw[dN,eH] at h1
 have h2:v.2.1.length≤(S.1.flatMap (fun v=>v.2.1)).length:=by
  obtain⟨a,b,e⟩:=List.append_of_mem hv;rw[e,List.flatMap_append,List.flatMap_cons];simp only[List.length_append];omega
 exact Λ h2 h1
theorem DL (s n c:Int) (w:ο) (h:dK s n=τ):
 Ζ η 109 #[φ #[J s,J n,J c]] w fun e w'=>e=.returned (Β (decide (c=0)||decide (c=1)))∧σ w.heap.size w w':=by
 have hm:=iT s n;rw[h] at hm;have H:=qh hm;clear hm h
 by_cases c0:c=0
 ·subst c0;go_enter Tryz.func109,Tryz.ntmps109;go_wp2_with (first|(go_at_call 64;refine(H.out _).mono ?_;rintro e w' ⟨rfl,hb⟩;obtain⟨hc,hf⟩:=ew hb))
  go_ret;exact⟨rfl,bc hb⟩
 ·have h0:(c==0)=ρ:=by simpa using c0
  by_cases c1:c=1
  ·subst c1;go_enter Tryz.func109,Tryz.ntmps109;go_wp2_with (first|(go_at_call 64;refine(H.out _).mono ?_;rintro e w' ⟨rfl,hb⟩;obtain⟨hc,hf⟩:=ew hb))
   go_ret;exact⟨rfl,bc hb⟩
  ·have h1:(c==1)=ρ:=by simpa using c1
   have hr:(decide (c=0)||decide (c=1))=ρ:=by simp[c0,c1]
   rw[hr];clear hr;go_enter Tryz.func109,Tryz.ntmps109;go_wp2_with (first|(go_at_call 64;refine(H.out _).mono ?_;rintro e w' ⟨rfl,hb⟩;obtain⟨hc,hf⟩:=ew hb))
   go_ret;exact⟨rfl,bc hb⟩
theorem Cz (s n c:Int) (w:ο) (h:dK s n=ρ):
 Ζ η 109 #[φ #[J s,J n,J c]] w fun e w'=>e=.returned (Β ρ)∧σ w.heap.size w w':=by
 have hm:=iT s n;rw[h] at hm;have H:=qh hm;clear hm h;go_enter Tryz.func109,Tryz.ntmps109;go_wp2_with (first|(go_at_call 64;refine(H.out _).mono ?_;rintro e w' ⟨rfl,hb⟩;obtain⟨hc,hf⟩:=ew hb))
 go_ret;exact⟨rfl,bc hb⟩
theorem De (s n c:Int):Pure 109 #[φ #[J s,J n,J c]] (Β (Uy s n c)):=fun w=>by
 unfold Uy;cases h:dK s n
 ·exact Cz s n c w h
 ·exact DL s n c w h
theorem rmaydart_may (s n c:Int) (w:ο) (h:dK s n=τ):
 Ζ η 97 #[φ #[J s,J n,J c]] w fun e w'=>e=.returned (Β (decide (c=0)||decide (c=1)))∧σ w.heap.size w w':=by
 have hm:=NJ s n;rw[h] at hm;have H:=qh hm;clear hm h
 by_cases c0:c=0
 ·subst c0;go_enter Tryz.func97,Tryz.ntmps97;go_wp2_with (first|(go_at_call 28;refine(H.out _).mono ?_;rintro e w' ⟨rfl,hb⟩;obtain⟨hc,hf⟩:=ew hb))
  go_ret;exact⟨rfl,bc hb⟩
 ·have h0:(c==0)=ρ:=by simpa using c0
  by_cases c1:c=1
  ·subst c1;go_enter Tryz.func97,Tryz.ntmps97;go_wp2_with (first|(go_at_call 28;refine(H.out _).mono ?_;rintro e w' ⟨rfl,hb⟩;obtain⟨hc,hf⟩:=ew hb))
   go_ret;exact⟨rfl,bc hb⟩
  ·have h1:(c==1)=ρ:=by simpa using c1
   have hr:(decide (c=0)||decide (c=1))=ρ:=by simp[c0,c1]
   rw[hr];clear hr;go_enter Tryz.func97,Tryz.ntmps97;go_wp2_with (first|(go_at_call 28;refine(H.out _).mono ?_;rintro e w' ⟨rfl,hb⟩;obtain⟨hc,hf⟩:=ew hb))
   go_ret;exact⟨rfl,bc hb⟩
theorem rmaydart_not (s n c:Int) (w:ο) (h:dK s n=ρ):
 Ζ η 97 #[φ #[J s,J n,J c]] w fun e w'=>e=.returned (Β ρ)∧σ w.heap.size w w':=by
 have hm:=NJ s n;rw[h] at hm;have H:=qh hm;clear hm h;go_enter Tryz.func97,Tryz.ntmps97;go_wp2_with (first|(go_at_call 28;refine(H.out _).mono ?_;rintro e w' ⟨rfl,hb⟩;obtain⟨hc,hf⟩:=ew hb))
 go_ret;exact⟨rfl,bc hb⟩
theorem rmaydart_any (s n c:Int):Pure 97 #[φ #[J s,J n,J c]] (Β (Uy s n c)):=fun w=>by
 unfold Uy;cases h:dK s n
 ·exact rmaydart_not s n c w h
 ·exact rmaydart_may s n c w h
structure dR where
 (k s n s1 n1 s2 n2 a0 a1 a2 a3 a4 b0 b1 b2 b3 b4:Int)
 e:Bool
 t:ByteArray
 m:Int
deriving DecidableEq
def ak (o:dR):List ψ:=[J o.k,J o.s,J o.n,J o.s1,J o.n1,J o.s2,J o.n2,J o.a0,J o.a1,J o.a2,J o.a3,J o.a4,J o.b0,J o.b1,J o.b2,J o.b3,J o.b4,Β o.e,μ o.t,J o.m]
def Hi (n:Int):Bool:=decide (-1099511627776≤n∧n≤1099511627776)
def Jn (a0 a1 a2 a3 a4:Int):Bool:=dK a0 a1 && (decide (a2=0∧a3=0∧a4=0)||Uy a2 a3 a4)
theorem Au (n:Int):Pure 89 #[J n] (Β (Hi n)):=fun w=>by
 unfold Hi
 by_cases h1:-1099511627776≤n
 ·by_cases h2:n≤1099511627776
  ·rw[decide_eq_true ⟨h1,h2⟩];go_enter Tryz.func89,Tryz.ntmps89;go_wp2;go_ret;exact⟨rfl,Θ _ _⟩
  ·rw[decide_eq_false (fun h=>h2 h.2)];go_enter Tryz.func89,Tryz.ntmps89;go_wp2;go_ret;exact⟨rfl,Θ _ _⟩
 ·rw[decide_eq_false (fun h=>h1 h.1)];go_enter Tryz.func89,Tryz.ntmps89;go_wp2;go_ret;exact⟨rfl,Θ _ _⟩
theorem Bk (a b c:Int) (W:ο):(binOp .eql 32 (φ #[J a,J b,J c]) (φ #[J 0,J 0,J 0])).run η W=.ok (Β (decide (a=0∧b=0∧c=0))) W:=by
 by_cases h1:a=0<;>by_cases h2:b=0<;>by_cases h3:c=0<;>simp[go_sem,h1,h2,h3]
theorem qI (a0 a1 a2 a3 a4:Int):Pure 88 #[φ #[J a0,J a1,J a2,J a3,J a4]] (Β (Jn a0 a1 a2 a3 a4)):=fun w=>by
 unfold Jn;have hm:=iT a0 a1;have hd:=De a2 a3 a4;have hq:=Bk a2 a3 a4;cases h:dK a0 a1
 ·rw[h] at hm;have H:=qh hm;clear hm hd hq h;go_enter Tryz.func88,Tryz.ntmps88;go_wp2_with (first|(go_at_call 64;refine(H.out _).mono ?_;rintro e w' ⟨rfl,hb⟩;obtain⟨hc,hf⟩:=ew hb))
  go_ret;exact⟨rfl,bc hb⟩
 ·rw[h] at hm;have H:=qh hm
  by_cases hz:a2=0∧a3=0∧a4=0
  ·rw[decide_eq_true hz] at hq ⊢;clear hm hd h hz;go_enter Tryz.func88,Tryz.ntmps88;go_wp2_with (first|(go_at_call 64;refine(H.out _).mono ?_;rintro e w' ⟨rfl,hb⟩;obtain⟨hc,hf⟩:=ew hb))
   go_ret;exact⟨rfl,bc hb⟩
  ·rw[decide_eq_false hz] at hq ⊢;have HD:=qh hd;clear hm hd h hz;go_enter Tryz.func88,Tryz.ntmps88
   go_wp2_with (first
    |(go_at_call 64;refine(H.out _).mono ?_;rintro e w' ⟨rfl,hb⟩;obtain⟨hc,hf⟩:=ew hb)
    |(go_at_call 109;refine(HD.out _).mono ?_;rintro e bW ⟨rfl,aP⟩))
   go_ret;exact⟨by simp,(bc hb).trans (aP.mono (bc hb).size)⟩
def lO (o:dR):Bool:=
 if o.k=1∨o.k=2∨o.k=4∨o.k=7 then τ
 else if o.k=3 then Jn o.a0 o.a1 o.a2 o.a3 o.a4 && Jn o.b0 o.b1 o.b2 o.b3 o.b4
 else if o.k=5 then dK o.s1 o.n1 && dK o.s2 o.n2 && decide (0≤o.m∧o.m≤3)
 else if o.k=6 then dK o.s2 o.n2
 else if o.k=8 then Hi o.m
 else ρ
theorem RH (k s n s1 n1 s2 n2 a0 a1 a2 a3 a4 b0 b1 b2 b3 b4:Int) (e:Bool) (t:ByteArray) (m:Int):Pure 65 #[φ #[J k,J s,J n,J s1,J n1,J s2,J n2,J a0,J a1,J a2,J a3,J a4,J b0,J b1,J b2,J b3,J b4,Β e,μ t,J m]] (Β (lO ⟨k,s,n,s1,n1,s2,n2,a0,a1,a2,a3,a4,b0,b1,b2,b3,b4,e,t,m⟩)):=fun w=>by
 unfold lO;simp only
 by_cases k1:k=1
 ·subst k1;rw[if_pos (by decide)];go_enter Tryz.func65,Tryz.ntmps65;go_wp2;go_ret;exact⟨rfl,az _ _⟩
 have q1:(k==1)=ρ:=by simpa using k1
 by_cases k2:k=2
 ·subst k2;rw[if_pos (by decide)];go_enter Tryz.func65,Tryz.ntmps65;go_wp2;go_ret;exact⟨rfl,az _ _⟩
 have q2:(k==2)=ρ:=by simpa using k2
 by_cases k4:k=4
 ·subst k4;rw[if_pos (by decide)];go_enter Tryz.func65,Tryz.ntmps65;go_wp2;go_ret;exact⟨rfl,az _ _⟩
 have q4:(k==4)=ρ:=by simpa using k4
 by_cases k7:k=7
 ·subst k7;rw[if_pos (by decide)];go_enter Tryz.func65,Tryz.ntmps65;go_wp2;go_ret;exact⟨rfl,az _ _⟩
 have q7:(k==7)=ρ:=by simpa using k7
 rw[if_neg (by omega)]
 by_cases k3:k=3
 ·subst k3;rw[if_pos rfl];have ha:=qI a0 a1 a2 a3 a4;have Iz:=qI b0 b1 b2 b3 b4;obtain⟨A,gA⟩:=aB (Jn a0 a1 a2 a3 a4);obtain⟨B,gB⟩:=aB (Jn b0 b1 b2 b3 b4);rw[gA] at ha ⊢;rw[gB] at Iz ⊢;have HA:=qh ha;have HB:=qh Iz;clear ha Iz gA gB k1 k2 k4 k7 q1 q2 q4 q7;have tok:True:=trivial;cases A
  ·go_enter Tryz.func65,Tryz.ntmps65
   go_wp2_with (first
    |(go_at_call 88;refine(HA.out _).mono ?_;rintro e w1 ⟨rfl,cP⟩;obtain⟨DO,oH⟩:=ew cP))
   go_ret;exact⟨rfl,bc cP⟩
  ·go_enter Tryz.func65,Tryz.ntmps65
   go_wp2_with (first
    |(go_at_call 88;have _t:=tok;refine(HA.out _).mono ?_;rintro e w1 ⟨rfl,cP⟩;obtain⟨DO,oH⟩:=ew cP;clear tok)
    |(go_at_call 88;refine(HB.out _).mono ?_;rintro e w2 ⟨rfl,aP⟩;obtain⟨qB,Fy⟩:=ew aP))
   go_ret;exact⟨by first|(simp;done)|(simp;omega),(bc cP).trans (aP.mono (bc cP).size)⟩
 rw[if_neg k3];have q3:(k==3)=ρ:=by simpa using k3
 by_cases k5:k=5
 ·subst k5;rw[if_pos rfl];have ha:=iT s1 n1;have Iz:=iT s2 n2;obtain⟨A,gA⟩:=aB (dK s1 n1);obtain⟨B,gB⟩:=aB (dK s2 n2);rw[gA] at ha ⊢;rw[gB] at Iz ⊢;have HA:=qh ha;have HB:=qh Iz;clear ha Iz gA gB k1 k2 k4 k7 q1 q2 q4 q7 k3 q3;have tok:True:=trivial;cases A
  ·go_enter Tryz.func65,Tryz.ntmps65
   go_wp2_with (first
    |(go_at_call 64;refine(HA.out _).mono ?_;rintro e w1 ⟨rfl,cP⟩;obtain⟨DO,oH⟩:=ew cP))
   go_ret;exact⟨rfl,bc cP⟩
  ·cases B
   ·go_enter Tryz.func65,Tryz.ntmps65
    go_wp2_with (first
     |(go_at_call 64;have _t:=tok;refine(HA.out _).mono ?_;rintro e w1 ⟨rfl,cP⟩;obtain⟨DO,oH⟩:=ew cP;have pO:w.heap.size<w1.heap.size:=JaK (by simp) cP.size;clear tok)
     |(go_at_call 64;refine(HB.out _).mono ?_;rintro e w2 ⟨rfl,aP⟩;obtain⟨qB,Fy⟩:=ew aP))
    go_ret;exact⟨by first|(simp;done)|(simp;omega),(bc cP).trans (aP.mono (bc cP).size)⟩
   ·by_cases m0:0≤m
    ·by_cases m3:m≤3
     ·have hd:decide (0≤m∧m≤3)=τ:=decide_eq_true ⟨m0,m3⟩;rw[hd];clear hd;go_enter Tryz.func65,Tryz.ntmps65
      go_wp2_with (first
       |(go_at_call 64;have _t:=tok;refine(HA.out _).mono ?_;rintro e w1 ⟨rfl,cP⟩;obtain⟨DO,oH⟩:=ew cP;have pO:w.heap.size<w1.heap.size:=JaK (by simp) cP.size;clear tok)
       |(go_at_call 64;refine(HB.out _).mono ?_;rintro e w2 ⟨rfl,aP⟩;obtain⟨qB,Fy⟩:=ew aP))
      go_ret;exact⟨by first|(simp;done)|(simp;omega),(bc cP).trans (aP.mono (bc cP).size)⟩
     ·have hd:decide (0≤m∧m≤3)=ρ:=decide_eq_false (fun h=>m3 h.2);rw[hd];clear hd;go_enter Tryz.func65,Tryz.ntmps65
      go_wp2_with (first
       |(go_at_call 64;have _t:=tok;refine(HA.out _).mono ?_;rintro e w1 ⟨rfl,cP⟩;obtain⟨DO,oH⟩:=ew cP;have pO:w.heap.size<w1.heap.size:=JaK (by simp) cP.size;clear tok)
       |(go_at_call 64;refine(HB.out _).mono ?_;rintro e w2 ⟨rfl,aP⟩;obtain⟨qB,Fy⟩:=ew aP))
      go_ret;exact⟨by first|(simp;done)|(simp;omega),(bc cP).trans (aP.mono (bc cP).size)⟩
    ·have hd:decide (0≤m∧m≤3)=ρ:=decide_eq_false (fun h=>m0 h.1);rw[hd];clear hd;go_enter Tryz.func65,Tryz.ntmps65
     go_wp2_with (first
      |(go_at_call 64;have _t:=tok;refine(HA.out _).mono ?_;rintro e w1 ⟨rfl,cP⟩;obtain⟨DO,oH⟩:=ew cP;have pO:w.heap.size<w1.heap.size:=JaK (by simp) cP.size;clear tok)
      |(go_at_call 64;refine(HB.out _).mono ?_;rintro e w2 ⟨rfl,aP⟩;obtain⟨qB,Fy⟩:=ew aP))
     go_ret;exact⟨by first|(simp;done)|(simp;omega),(bc cP).trans (aP.mono (bc cP).size)⟩
 rw[if_neg k5];have q5:(k==5)=ρ:=by simpa using k5
 by_cases k6:k=6
 ·subst k6;rw[if_pos rfl];have H:=qh (iT s2 n2);obtain⟨A,gA⟩:=aB (dK s2 n2);rw[gA] at H ⊢;clear gA k1 k2 k4 k7 q1 q2 q4 q7 k3 q3 k5 q5;go_enter Tryz.func65,Tryz.ntmps65
  go_wp2_with (first
   |(go_at_call 64;refine(H.out _).mono ?_;rintro e w1 ⟨rfl,cP⟩;obtain⟨DO,oH⟩:=ew cP))
  go_ret;exact⟨rfl,bc cP⟩
 rw[if_neg k6];have q6:(k==6)=ρ:=by simpa using k6
 by_cases k8:k=8
 ·subst k8;rw[if_pos rfl];have H:=qh (Au m);obtain⟨A,gA⟩:=aB (Hi m);rw[gA] at H ⊢;clear gA k1 k2 k4 k7 q1 q2 q4 q7 k3 q3 k5 q5 k6 q6;go_enter Tryz.func65,Tryz.ntmps65
  go_wp2_with (first
   |(go_at_call 89;refine(H.out _).mono ?_;rintro e w1 ⟨rfl,cP⟩;obtain⟨DO,oH⟩:=ew cP))
  go_ret;exact⟨rfl,bc cP⟩
 ·have q8:(k==8)=ρ:=by simpa using k8
  rw[if_neg k8];clear k1 k2 k4 k7 k3 k5 k6 k8;go_enter Tryz.func65,Tryz.ntmps65;go_wp2;go_ret;exact⟨rfl,az _ _⟩
end Go.Proofs.YtpdpbfmiahjiiaaGreat
