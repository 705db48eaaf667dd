/- Several texts in one. -/
import Derived.Test.YtpdpbfmiahjiiaaGreatPlAA
import Derived.Test.YtpdpbfmiahjiiaaGreatPlAB
import Derived.Test.YtpdpbfmiahjiiaaGreatPlAC
import Derived.Test.YtpdpbfmiahjiiaaGreatPlAD
import Derived.Test.YtpdpbfmiahjiiaaGreatPlAE
import Derived.Test.YtpdpbfmiahjiiaaGreatPlAH
import Derived.Test.YtpdpbfmiahjiiaaGreatPlAI
import Derived.BigQuiet
import Derived.Deep.QuietTactic
import Derived.Deep.RegionHeld3
import Derived.Lib.Hide
import Derived.WalkKit
set_option linter.unusedSectionVars false
set_option linter.unusedSimpArgs false
set_option linter.unusedVariables false
set_option maxRecDepth 100000
set_option maxHeartbeats 16000000
namespace Go.Proofs.YtpdpbfmiahjiiaaGreat
open Go.RowKit
open _root_.Go.Value renaming slice→γ,string→μ,agg→φ,bool→Β,slice→Ο
open _root_.Go.Obj renaming cells→δ
open _root_.Option renaming none→ε,some→ζ
open _root_.Go.Proofs.Tryz renaming prog→η
open _root_.List renaming getElem?_eq_getElem→θ,map_cons→ι,getD_eq_getElem?_getD→χ,mem_map→Α,length_append→Ε,length_map→Ρ,all_eq_true→Φ,getElem?_append_left→Jab,getElem?_append_right→Jal,mem_append→Jan,mem_singleton→Jao,mem_flatMap→Jat,nodup_append→JaL,map_map→JaW,pairwise_map→Jbg,getElem_of_mem→Jbv
open _root_.Go.Act renaming put→ξ
open _root_.Go renaming World→ο,Value→ψ,Calls→Ζ,Addr→Κ,TypeId→Υ
open _root_.Bool renaming false→ρ,true→τ,and_eq_true→Jar
open _root_.Go.RowKit renaming Below→σ
open _root_.Nat renaming le_refl→Δ,le_trans→Λ,lt_of_lt_of_le→JaK,sub_self→JaP,mod_eq_of_lt→JbE
open _root_.Go.RowKit.Below renaming refl→Θ
open _root_.Option.some renaming inj→Μ
open _root_.Go.IntKind renaming i64→Jaw
open _root_.Go.Builtin renaming append_→JaY
theorem Dp:(η.info? 32).map (fun i=>(i.zero,i.size,i.bytes))=ζ (ζ (φ #[J 0,J 0,J 0]),3,24):=by kernel_rfl
theorem qT {W:ο} {B B' n:Nat} {e:Υ} {size:Nat} {v:ψ} {xs:List ψ} (h:W.ownsRow B e size v n xs) (hB:B'≤B):W.ownsRow B' e size v n xs:=by
 refine⟨h.1,?_⟩
 rcases h.2 with hn|⟨g,cap,cur,h1,hb,rest⟩
 ·exact .inl hn
 ·exact .inr ⟨g,cap,cur,h1,Λ hB hb,rest⟩
theorem u9 {P:Program} (W:ο) (t ty e:Υ) (i:TypeInfo) (z:ψ) (size bytes:Nat) (ht:P.underlying t=ζ (.slice e)) (hi:P.info? e=ζ i) (hz:i.zero=ζ z) (je:i.size=size) (yn:i.bytes=bytes) (xY:z.cells.size=size) (S8:0<size)
 (A:Option Κ) (m c:Nat) (news:List ψ) (hr:aS W W.heap.size size A m c news) (h1:∀u∈news,u.oneCell'=τ) (hm:m≤1000000) (hb:bytes≤100):
 ∃A' c' W',(JaY #[t,t] ty #[γ (ζ ⟨W.heap.size,0,ε⟩) 0 0,γ A m c]).run P (W.alloc (δ #[] e))=.ok (γ A' m c') W'∧W'.ownsRow W.heap.size e size (γ A' m c') m news∧σ W.heap.size W W':=by
 have fu:Ow W W.heap.size e size (γ (ζ ⟨W.heap.size,0,ε⟩) 0 0) 0 [] (W.alloc (δ #[] e)):=⟨World.ownsRow_made W #[] 0 (Δ _) (Nat.zero_le _) (by simp),aF (Θ _ W) _,Δ _,by simp⟩;have aaG:(0+m)*bytes≤140737488355328:=Λ (Nat.mul_le_mul_left _ hb) (by omega);obtain⟨v',W',bL,ho,ar,hg,-⟩:=Ow.app2 (P:=P) t ty e i z size bytes W.heap.size ht hi hz je yn xY S8 _ _ _ fu _ A m c news (hr.al (δ #[] e)) h1 (by unfold maxLen;omega) aaG;rw[Nat.zero_add,List.nil_append] at ho;obtain⟨A',c',rfl,-⟩:=ho.rds;exact⟨A',c',W',bL,ho.own,ho.below⟩
structure mo (W:ο) (lo:Nat) (A:Option Κ) (n c:Nat) (Ws:List VC) (B:Option Κ) (m k:Nat) (Es:List EC):Prop where
 v:W.ownsRow lo 59 5 (γ A n c) n (ao vC Ws)
 e:W.ownsRow lo 67 4 (γ B m k) m (ao eC Es)
 r:∀x∈Ws,W.ownsRow lo 32 3 (γ x.2.1.1 x.2.1.2.1 x.2.1.2.2.1) x.2.1.2.1 (aA x.2.1.2.2.2)
section
variable {W W':ο} {lo:Nat} {A:Option Κ} {n c:Nat} {Ws:List VC} {B:Option Κ} {m k:Nat} {Es:List EC}
theorem mo.bl (h:mo W lo A n c Ws B m k Es) (hb:σ W.heap.size W W'):mo W' lo A n c Ws B m k Es:=⟨bF h.v hb,bF h.e hb,fun x hx=>bF (h.r x hx) hb⟩
theorem mo.al (h:mo W lo A n c Ws B m k Es) (o:Obj):mo (W.alloc o) lo A n c Ws B m k Es:=h.bl (ax W o)
theorem mo.wr (h:mo W lo A n c Ws B m k Es):Wr W lo A n c Ws B m k Es:=⟨h.v,bk h.e,fun x hx=>⟨fV (h.r x hx),bk (h.r x hx)⟩⟩
theorem mo.far (h:mo W lo A n c Ws B m k Es) {g i:Nat} {T:Υ} {cs:List ψ} (hw:Whole W g T cs) (h1:T≠59) (h2:T≠67) (h3:T≠32) (u:ψ):mo (W.setCell ⟨g,i,ε⟩ u) lo A n c Ws B m k Es:=
 ⟨aI h.v (bM h.v hw h1) u,aI h.e (bM h.e hw h2) u,fun x hx=>aI (h.r x hx) (bM (h.r x hx) hw h3) u⟩
theorem mo.far2 (h:mo W lo A n c Ws B m k Es) {g i:Nat} {cs:List ψ} (hw:Whole W g 59 cs) (hv:ζ g≠(Ο A n c).ownBlock) (u:ψ):mo (W.setCell ⟨g,i,ε⟩ u) lo A n c Ws B m k Es:=
 ⟨aI h.v hv u,aI h.e (bM h.e hw (by decide)) u,fun x hx=>aI (h.r x hx) (bM (h.r x hx) hw (by decide)) u⟩
theorem mo.lo_ (h:mo W lo A n c Ws B m k Es) {lo':Nat} (hl:lo'≤lo):mo W lo' A n c Ws B m k Es:=by
 have q:∀{e:Υ} {s:Nat} {v:ψ} {j:Nat} {xs:List ψ},W.ownsRow lo e s v j xs→W.ownsRow lo' e s v j xs:=fun h=>by
  refine⟨h.1,?_⟩
  rcases h.2 with hn|⟨g,cap,cur,h1,hb,rest⟩
  ·exact .inl hn
  ·exact .inr ⟨g,cap,cur,h1,Λ hl hb,rest⟩
 exact⟨q h.v,q h.e,fun x hx=>q (h.r x hx)⟩
theorem mo.push {P:Program} (h:mo W lo A n c Ws B m k Es) (x:VC) (hx:W.ownsRow lo 32 3 (γ x.2.1.1 x.2.1.2.1 x.2.1.2.2.1) x.2.1.2.1 (aA x.2.1.2.2.2)) (t ty:Υ) (i:TypeInfo) (z:ψ) (ht:P.underlying t=ζ (.slice 59)) (hi:P.info? 59=ζ i) (hz:i.zero=ζ z) (je:i.size=5) (yn:i.bytes=64) (xY:z.cells.size=5)
 (hn:n≤1000000) (gi:lo≤W.heap.size) (g:Nat) (hr:aS W W.heap.size 5 (ζ ⟨g,0,ε⟩) 1 1 (vC x)):
 ∃A' c' W',(JaY #[t,t] ty #[γ A n c,γ (ζ ⟨g,0,ε⟩) 1 1]).run P W=.ok (γ A' (n+1) c') W'∧mo W' lo A' (n+1) c' (Ws++[x]) B m k Es∧σ lo W W'∧W.grownBy W' (Ο A n c).ownBlock:=by
 obtain⟨v',W2,bL,fy,hg,Mh,hb⟩:=run_append_own_at (P:=P) W lo t ty 59 i z 5 64 ht hi hz je yn xY (by decide) _ n _ h.v ⟨g,0,ε⟩ 1 1 _ hr.len (hr.cell _ rfl) (j3 x) (by unfold maxLen;omega) (by omega) gi;have hk:∀k,(Ο A n c).ownBlock=ζ k→lo≤k:=fun k hk=>(h.v.lt k hk).1
 obtain⟨A',c',rfl,_⟩:=aS.of_own fy;have e:ao vC Ws++vC x=ao vC (Ws++[x]):=by rw[bX];simp[ao]
 rw[e] at fy
 have keep:∀{T:Υ} {s:Nat} {v:ψ} {j:Nat} {xs:List ψ},W.ownsRow lo T s v j xs→59≠T→W2.ownsRow lo T s v j xs:=fun {T s v j xs} ho hT=>ho.kept hg (by
  cases hv:v.ownBlock with
  |none=>exact .inl rfl
  |some g=>exact .inr fun q=>rY h.v ho hT q.symm hv)
 refine⟨A',c',W2,bL,⟨fy,keep h.e (by decide),fun y hy=>?_⟩,(Θ lo W).grown hg gi hk,hg⟩
 rcases Jan.1 hy with hy|hy
 ·exact keep (h.r y hy) (by decide)
 ·obtain rfl:=Jao.1 hy;exact keep hx (by decide)
end
theorem uZ (A:Option Κ) (n c:Nat) (Vs:List VC) (B:Option Κ) (m k:Nat) (Es:List EC) (w:ο) (h:aO w A n c Vs B m k Es) (hn:n≤1000000) (hm:m≤1000000) (hr:∀x∈Vs,x.2.1.2.1≤1000000):
 Ζ η 23 #[φ #[γ A n c,γ B m k]] w fun e w'=>∃A' c' B' k' Ws,e=.returned (φ #[γ A' n c',γ B' m k'])∧mo w' w.heap.size A' n c' Ws B' m k' Es∧Ws.map vS=Vs.map vS∧σ w.heap.size w w':=by
 have HV:=qh h.v;have HE:=qh h.e;have Dc:=qh h.r;have CQ:=qh (h.v.rlen aN (by decide));have Sm:=qh hr;obtain⟨iV,TP,JY,Jt,Kq⟩:=a6 gU;obtain⟨iE,EB,Y4,aaZ,YG⟩:=a6 jB;obtain⟨iD,hid,YY,aaY,Zq⟩:=a6 Dp;clear h hr;go_enter Tryz.func23,Tryz.ntmps23;go_upto_region 1 with fail
 obtain⟨W0,b0,b1,bJ,bS,cJ,aR,aQ,bn,uo,zl,j4,zY,fD,kY⟩:=D8 w 25 [γ A n c,γ B m k] 25 [γ ε 0 0,γ ε 0 0];rw[bJ,cJ,bS];clear bJ bS cJ;obtain⟨Be,ke,W1,bL,L6,RK⟩:=u9 (P:=η) W0 23 23 67 iE _ 4 40 Tryz.underlying23 EB Y4 aaZ YG rfl (by decide) B m k _ (HE.out.bl bn.out) (px eC qg Es) hm (by decide);have c1:=(aR.out.al (δ #[] 67)).cell (i:=1) rfl
 go_wp2_with (first
  |(at_builtin
    refine jA (ζ 9) rfl (by rfl) (bV (by rfl) (by rfl) (by rfl) bL) ?_))
 have qV:=qh ((aR.out.bl RK).al (δ #[γ ε 0 0,γ Be m ke] 25));have kR:=qh ((aQ.out.bl RK).al (δ #[γ ε 0 0,γ Be m ke] 25));have Bq:=qh (Whole.new2 (w:=W1) (t:=25) (cs:=[γ ε 0 0,γ Be m ke]) rfl);have iT:=qh (aF (af bn.out RK) (δ #[γ ε 0 0,γ Be m ke] 25));have ES:Hid (mo (W1.alloc (δ #[γ ε 0 0,γ Be m ke] 25)) w.heap.size ε 0 0 [] Be m ke Es):=qh ⟨World.ownsRow_nil _ _ _ _,bF (qT L6 bn.out.size) (ax _ _),fun x hx=>(by cases hx)⟩;have Hb3:Hid (w.heap.size≤W1.heap.size):=qh (by have:=bn.out.size;have:=RK.size;omega);have Wd:Hid (b0≠W1.heap.size):=qh (by have:=(aR.out.bl RK).lt;omega);have Vd:Hid (b1≠W1.heap.size):=qh (by have:=(aQ.out.bl RK).lt;omega);clear bL L6 RK c1;obtain⟨W2,eO⟩:=az (W1.alloc (δ #[γ ε 0 0,γ Be m ke] 25));obtain⟨b3,oR⟩:=az W1.heap.size;rw[eO] at qV kR Bq iT ES ⊢;rw[oR] at Bq Hb3 Wd Vd ⊢;clear eO oR aR aQ bn uo;go_loopw [4] (fun si wr=>∃(j:Nat) (A2:Option Κ) (c2:Nat) (Ws:List VC),j≤n∧si=J j∧Hid (σ w.heap.size w wr)∧Hid (Whole wr b0 25 [γ A n c,γ B m k])∧Hid (Whole wr b1 25 [γ ε 0 0,γ ε 0 0])∧Hid (Whole wr b3 25 [γ A2 j c2,γ Be m ke])∧Hid (mo wr w.heap.size A2 j c2 Ws Be m ke Es)∧Hid (Ws.map vS=(Vs.take j).map vS)) (fun si _=>n - (intOf si).toNat)
 case atStart=>exact⟨0,ε,0,[],by omega,rfl,iT,qV,kR,Bq,ES,qh rfl⟩
 case round=>
  clear iT qV kR Bq ES;obtain⟨j,A2,c2,Ws,hj,rfl,HB,aR,aQ,ff,HC,HM⟩:=hrel;obtain⟨wo,dB⟩:=az wr;rw[dB] at HB aR aQ ff HC ⊢;clear dB;have cb:=aR.out.cell (i:=0) rfl
  by_cases nF:j<n
  ·obtain⟨v,hx⟩:∃v,Vs[j]? =ζ v:=⟨_,θ (by have:=CQ.out;omega)⟩
   have hMn:(Vs.take (j+1)).map vS=(Vs.take j).map vS++[vS v]:=by
    rw[List.take_add_one,hx];simp
   have Y3:=List.mem_of_getElem? hx;have eV:=Dc.out v Y3;have nP:=Sm.out v Y3;obtain⟨bb,off,rfl,bZ,bD⟩:=HV.out.place aN (by decide) (by omega);have cR:=HB.out;have q0:=bD j _ hx 0 _ rfl;have q1:=bD j _ hx 1 _ rfl;have q2:=bD j _ hx 2 _ rfl;have q3:=bD j _ hx 3 _ rfl;have q4:=bD j _ hx 4 _ rfl;simp only[Addr.add_lit,Nat.add_zero] at q0 q1 q2 q3 q4;have l0:=(cR.cell (p:=⟨bb,off+j*5,ε⟩) bZ).trans q0;have l1:=(cR.cell (p:=⟨bb,off+j*5+1,ε⟩) bZ).trans q1;have l2:=(cR.cell (p:=⟨bb,off+j*5+2,ε⟩) bZ).trans q2;have l3:=(cR.cell (p:=⟨bb,off+j*5+3,ε⟩) bZ).trans q3;have l4:=(cR.cell (p:=⟨bb,off+j*5+4,ε⟩) bZ).trans q4;clear cR q0 q1 q2 q3 q4;obtain⟨⟨i1,i2⟩,⟨rA,rn,rc,rL⟩,lb,at_⟩:=v;replace nP:rn≤1000000:=nP;have HR:Hid (aS w w.heap.size 3 rA rn rc (aA rL)):=qh eV.2;have HMn:=qh hMn;clear hx hMn Y3 eV bZ bD;go_upto_region 6 with fail
   clear cb l0 l1 l2 l3 l4;have iT:=qh (aF HB.out (δ #[J i1,J i2,γ rA rn rc,μ lb,J at_] 59));have qV:=qh (aR.out.al (δ #[J i1,J i2,γ rA rn rc,μ lb,J at_] 59));have kR:=qh (aQ.out.al (δ #[J i1,J i2,γ rA rn rc,μ lb,J at_] 59));have Bq:=qh (ff.out.al (δ #[J i1,J i2,γ rA rn rc,μ lb,J at_] 59));have ES:=qh (HC.out.al (δ #[J i1,J i2,γ rA rn rc,μ lb,J at_] 59));have gW:=qh (Whole.new2 (w:=wo) (t:=59) (cs:=[J i1,J i2,γ rA rn rc,μ lb,J at_]) rfl);have HLy:Hid (w.heap.size≤wo.heap.size):=qh HB.out.size;have Hnv:Hid (ζ wo.heap.size≠(Ο A2 j c2).ownBlock):=qh (fun e=>by have:=(HC.out.v.lt _ e.symm).2;omega);obtain⟨W3,lu⟩:=az (wo.alloc (δ #[J i1,J i2,γ rA rn rc,μ lb,J at_] 59));obtain⟨b5,JO⟩:=az wo.heap.size;rw[lu] at iT qV kR Bq ES gW ⊢;rw[JO] at gW HLy Hnv ⊢;clear lu JO HB aR aQ ff HC;obtain⟨A8,c8,W4,bL,hor,NX⟩:=u9 (P:=η) W3 57 57 32 iD _ 3 24 Tryz.underlying57 hid YY aaY Zq rfl (by decide) rA rn rc _ (HR.out.up iT.out iT.out.size) (dW rL) nP (by decide);have d2:=(gW.out.al (δ #[] 32)).cell (i:=2) rfl;have e2:=(gW.out.bl NX).cell (i:=2) rfl;have f2:=(gW.out.bl NX).free 2
   go_upto_region 7 with (first
    |(at_builtin
      refine jA (ζ 26) rfl (by rfl) (bV (by rfl) (by rfl) (by rfl) bL) ?_))
   clear d2 e2 f2;have IA:=qh (gW.out.bl NX);have GV:=qh (qV.out.bl NX);have fY:=qh (kR.out.bl NX);have Si:=qh (Bq.out.bl NX);have jJ:=qh (af iT.out NX);have HC4:=qh (ES.out.bl NX);have nI:=qh (qT hor iT.out.size);clear bL hor NX iT qV kR Bq ES gW;have Gj:=qh (IA.out.set_ 2 (γ A8 rn c8));have NL:=qh (GV.out.set_far' (i:=2) (GV.out.ne_ IA.out (by decide)) (γ A8 rn c8));have MC:=qh (fY.out.set_far' (i:=2) (fY.out.ne_ IA.out (by decide)) (γ A8 rn c8));have Lk:=qh (Si.out.set_far' (i:=2) (Si.out.ne_ IA.out (by decide)) (γ A8 rn c8));have js:=qh (jJ.out.setCell (p:=⟨b5,2,ε⟩) HLy.out (γ A8 rn c8));have oz:=qh (HC4.out.far2 (i:=2) IA.out Hnv.out (γ A8 rn c8));have kr:=qh (aI (i:=2) nI.out (bM nI.out IA.out (by decide)) (γ A8 rn c8));obtain⟨W5,tA⟩:=az (W4.setCell ⟨b5,2,ε⟩ (γ A8 rn c8));rw[tA] at Gj NL MC Lk js oz kr ⊢;clear tA IA GV fY Si jJ HC4 nI;replace Gj:Hid (Whole W5 b5 59 (vC ((i1,i2),(A8,rn,c8,rL),lb,at_))):=Gj;have c3:=Lk.out.cell (i:=0) rfl;refine wp_region_lit ?_;refine ag (v:=?_) (ζ 28) rfl (by rfl) ?_ ?_;rotate_left
   ·go_simp;(try with_reducible rfl)
   simp only[ξ,ak,aj,ah];refine ag (v:=?_) (ζ 29) rfl (by rfl) ?_ ?_;rotate_left
   ·go_simp;(try with_reducible rfl)
   simp only[ξ,ak,aj,ah];refine bh (ζ 30) rfl (by rfl) 59 (.tmp 5) rfl (b5) rfl 59 (vC ((i1,i2),(A8,rn,c8,rL),lb,at_)) _ Gj.out Tryz.underlying59 rfl (by kernel_rfl) ?_;simp only[ξ,ak,aj,ah];clear c3;refine cZ (ζ 31) rfl (by rfl) 22 59 1 #[(0,.tmp 30)] (by rfl) Tryz.underlying22 (vC ((i1,i2),(A8,rn,c8,rL),lb,at_)).toArray (by kernel_rfl) ?_;simp only[ξ,ak,aj,ah];obtain⟨A9,c9,W6,bL,hC6,dO,Th⟩:=(oz.out.al (δ (vC ((i1,i2),(A8,rn,c8,rL),lb,at_)).toArray 59)).push (P:=η) ((i1,i2),(A8,rn,c8,rL),lb,at_) (bF kr.out (ax _ _)) 22 22 iV _ Tryz.underlying22 TP JY Jt Kq rfl (by omega) (by have:=js.out.size;simp;omega) W5.heap.size (aS.of_whole (Whole.new2 rfl) rfl);refine jA (ζ 32) rfl (by rfl) (bV (by rfl) (by rfl) (by rfl) bL) ?_;simp only[ξ,ak,aj,ah];have n0:=bM oz.out.v NL.out (by decide);have n1:=bM oz.out.v MC.out (by decide);have n3:=bM oz.out.v Lk.out (by decide);have aa2:=qh ((NL.out.al (δ (vC ((i1,i2),(A8,rn,c8,rL),lb,at_)).toArray 59)).grown Th n0);have wJ:=qh ((MC.out.al (δ (vC ((i1,i2),(A8,rn,c8,rL),lb,at_)).toArray 59)).grown Th n1);have Oj:=qh ((Lk.out.al (δ (vC ((i1,i2),(A8,rn,c8,rL),lb,at_)).toArray 59)).grown Th n3);have qX:Hid (σ w.heap.size w W6):=qh ((aF js.out (δ (vC ((i1,i2),(A8,rn,c8,rL),lb,at_)).toArray 59)).trans dO);have FQ:=qh hC6;clear bL hC6 dO Th n0 n1 n3 Gj NL MC Lk js oz kr
   have c3:=Oj.out.cell (i:=0) rfl;have f3:=Oj.out.free 0;have Zt:=qh (aa2.out.set_far' (i:=0) Wd.out (γ A9 (j+1) c9));have aag:=qh (wJ.out.set_far' (i:=0) Vd.out (γ A9 (j+1) c9));have ZH:=qh (Oj.out.set_ 0 (γ A9 (j+1) c9));have OT:=qh (qX.out.setCell (p:=⟨b3,0,ε⟩) Hb3.out (γ A9 (j+1) c9));have HC7:=qh (FQ.out.far (i:=0) Oj.out (by decide) (by decide) (by decide) (γ A9 (j+1) c9));have HM7:Hid ((Ws++[((i1,i2),(A8,rn,c8,rL),lb,at_)]).map vS=(Vs.take (j+1)).map vS):=qh (by rw[HMn.out,List.map_append,HM.out];rfl);clear HM HMn;go_wp2;go_roundw
   case rel=>exact⟨j+1,A9,c9,_,by omega,by go_num,OT,Zt,aag,ZH,HC7,HM7⟩
   case measure=>simp[intOf];omega
  ·obtain rfl:n=j:=by omega
   have hM:=HM.out;rw[List.take_of_length_le (by have:=CQ.out;omega)] at hM;have kI:=(aQ.out.set_ 0 (γ A2 n c2)).set_ 1 (γ Be m ke);have tN:=(HC.out.far (i:=0) aQ.out (by decide) (by decide) (by decide) (γ A2 n c2)).far (i:=1) (aQ.out.set_ 0 (γ A2 n c2)) (by decide) (by decide) (by decide) (γ Be m ke);have fe:=(HB.out.setCell (p:=⟨b1,0,ε⟩) fD.out (γ A2 n c2)).setCell (p:=⟨b1,1,ε⟩) fD.out (γ Be m ke);have e0:=ff.out.cell (i:=0) rfl;have e1:=ff.out.cell (i:=1) rfl;have f0:=aQ.out.free 0;have f1:=aQ.out.free 1;have k0:=aQ.out.cell (i:=0) rfl;have k1:=aQ.out.cell (i:=1) rfl;have Wx:=qh (show ∃A' c' B' k' Us,(Ending.returned (φ #[γ A2 n c2,γ Be m ke]))=.returned (φ #[γ A' n c',γ B' m k'])∧mo _ w.heap.size A' n c' Us B' m k' Es∧Us.map vS=Vs.map vS∧σ w.heap.size w _ from⟨A2,c2,Be,ke,Ws,rfl,tN,hM,fe⟩);have Hx1:=qh kI;clear kI hM tN fe HC HM HB aR aQ ff;go_wp2;exact bz rfl b1 rfl Hx1.out Tryz.underlying25 rfl (by kernel_rfl) rfl Wx.out
theorem ku {R:List D} (hn:R.Nodup) {k:Nat} (hk:k<R.length):ic R (R.getD k (0,0,0))=R.getD ((k+1) % R.length) (0,0,0):=by
 have e:R.getD k (0,0,0)=R[k]:=by rw[χ,θ hk];rfl
 rw[ic,e,hn.idxOf_getElem k hk]
theorem Ou {R:List D} {y:D} (h:y∈R):∃k,k<R.length∧R.getD k (0,0,0)=y:=by
 obtain⟨k,hk,e⟩:=Jbv h;exact⟨k,hk,by rw[χ,θ hk];exact e⟩
theorem EO (X Y:List D) {k:Nat} (hk:k<(Y++X).length):(Y++X).getD k (0,0,0)=(X++Y).getD ((k+X.length) % (X++Y).length) (0,0,0):=by
 rw[Ε] at hk;rw[χ,χ,Ε]
 by_cases q:k<Y.length
 ·rw[Jab q,JbE (by omega),Jal (by omega),Nat.add_sub_cancel]
 ·rw[Jal (by omega)]
  have e:(k+X.length) % (X.length+Y.length)=k - Y.length:=by
   rw[show k+X.length=(k - Y.length)+(X.length+Y.length) by omega,Nat.add_mod_right,JbE (by omega)]
  rw[e,Jab (by omega)]
theorem vV {A B:List D} (h:sz A B) (hn:A.Nodup) {y:D} (hy:y∈A):ic B y=ic A y:=by
 obtain⟨X,Y,rfl,rfl⟩:=h;have hnB:(Y++X).Nodup:=List.perm_append_comm.nodup_iff.1 hn;obtain⟨k,hk,rfl⟩:=Ou (R:=Y++X) (List.perm_append_comm.mem_iff.1 hy);have hl:(Y++X).length=(X++Y).length:=by simp[Nat.add_comm]
 have Sp:0<(X++Y).length:=by omega
 rw[ku hnB hk,EO X Y (Nat.mod_lt _ (by omega)),EO X Y hk,ku hn (Nat.mod_lt _ Sp),hl];congr 1;rw[Nat.mod_add_mod,Nat.mod_add_mod];congr 1;omega
theorem Ax:∀(Us Ws:List VC) (f:D→Option D),Us.map (fun v=>v.2.1.2.2.2)=Ws.map (fun v=>v.2.1.2.2.2)→I8 Us f=I8 Ws f
 |[],[],_,_=>rfl
 |[],_::_,_,h=>by cases h
 |_::_,[],_,h=>by cases h
 |u::r,v::s,f,h=>by
  rw[ι,ι] at h;injection h with h1 h2
  rw[I8,I8,h1];exact Ax r s _ h2
theorem Gs {Us Ws:List VC} (h:Us.map vS=Ws.map vS):Ba Us=Ba Ws:=by
 have h1:=congrArg (List.map (fun s:(Int × Int) × List D × ByteArray × Int=>s.2.1)) h;rw[JaW,JaW] at h1;exact Ax Us Ws _ h1
theorem LX {Us Ws:List VC} (h:Us.map vS=Ws.map vS):jF Us=jF Ws:=by
 funext y
 rw[jF,jF,pM,pM,Gs h]
theorem mo.pushE {P:Program} {W:ο} {lo:Nat} {A:Option Κ} {n c:Nat} {Ws:List VC} {B:Option Κ} {m k:Nat} {Es:List EC} (h:mo W lo A n c Ws B m k Es) (x:EC) (t ty:Υ) (i:TypeInfo) (z:ψ) (ht:P.underlying t=ζ (.slice 67)) (hi:P.info? 67=ζ i) (hz:i.zero=ζ z) (je:i.size=4) (yn:i.bytes=40) (xY:z.cells.size=4)
 (hn:m≤1000000) (gi:lo≤W.heap.size) (g:Nat) (hr:aS W W.heap.size 4 (ζ ⟨g,0,ε⟩) 1 1 (eC x)):
 ∃B' k' W',(JaY #[t,t] ty #[γ B m k,γ (ζ ⟨g,0,ε⟩) 1 1]).run P W=.ok (γ B' (m+1) k') W'∧mo W' lo A n c Ws B' (m+1) k' (Es++[x])∧σ lo W W'∧W.grownBy W' (Ο B m k).ownBlock:=by
 obtain⟨v',W2,bL,fy,hg,Mh,hb⟩:=run_append_own_at (P:=P) W lo t ty 67 i z 4 40 ht hi hz je yn xY (by decide) _ m _ h.e ⟨g,0,ε⟩ 1 1 _ hr.len (hr.cell _ rfl) (qg x) (by unfold maxLen;omega) (by omega) gi;have hk:∀k',(Ο B m k).ownBlock=ζ k'→lo≤k':=fun k' hk=>(h.e.lt k' hk).1
 obtain⟨B',k',rfl,_⟩:=aS.of_own fy;have e:ao eC Es++eC x=ao eC (Es++[x]):=by rw[bX];simp[ao]
 rw[e] at fy
 have keep:∀{T:Υ} {s:Nat} {v:ψ} {j:Nat} {xs:List ψ},W.ownsRow lo T s v j xs→67≠T→W2.ownsRow lo T s v j xs:=fun {T s v j xs} ho hT=>ho.kept hg (by
  cases hv:v.ownBlock with
  |none=>exact .inl rfl
  |some g=>exact .inr fun q=>rY h.e ho hT q.symm hv)
 exact⟨B',k',W2,bL,⟨keep h.v (by decide),fy,fun y hy=>keep (h.r y hy) (by decide)⟩,(Θ lo W).grown hg gi hk,hg⟩
theorem JR (B:List D) (x d:D) (hn:(B++[x,d]).Nodup):ic (B++[x,d]) x=d∧ic (B++[x,d]) d=ic (B++[x]) x∧∀z∈B,ic (B++[x,d]) z=ic (B++[x]) z:=by
 have rX:(B++[x]).Nodup:=by
  have:(B++[x,d])=(B++[x])++[d]:=by simp
  rw[this] at hn;exact(JaL.1 hn).1
 have g:∀(i:Nat) (h:i<B.length),(B++[x,d]).getD i (0,0,0)=B[i]:=fun i h=>by
  rw[χ,Jab h,θ h];rfl
 have g':∀(i:Nat) (h:i<B.length),(B++[x]).getD i (0,0,0)=B[i]:=fun i h=>by
  rw[χ,Jab h,θ h];rfl
 have gx:(B++[x,d]).getD B.length (0,0,0)=x:=by
  rw[χ,Jal (Δ _),JaP];rfl
 have gx':(B++[x]).getD B.length (0,0,0)=x:=by
  rw[χ,Jal (Δ _),JaP];rfl
 have gd:(B++[x,d]).getD (B.length+1) (0,0,0)=d:=by
  rw[χ,Jal (by omega),show B.length+1 - B.length=1 by omega];rfl
 have hl:(B++[x,d]).length=B.length+2:=by simp
 have Uo:(B++[x]).length=B.length+1:=by simp
 have g0:(B++[x,d]).getD 0 (0,0,0)=(B++[x]).getD 0 (0,0,0):=by
  cases B with
  |nil=>rfl
  |cons b r=>rfl
 refine⟨?_,?_,fun z hz=>?_⟩
 ·have:=ku hn (k:=B.length) (by omega)
  rw[gx,hl,JbE (by omega),gd] at this;exact this
 ·have h1:=ku hn (k:=B.length+1) (by omega);rw[gd,hl,show B.length+1+1=B.length+2 by omega,Nat.mod_self] at h1;have h2:=ku rX (k:=B.length) (by omega);rw[gx',Uo,Nat.mod_self] at h2;rw[h1,h2,g0]
 ·obtain⟨i,hi,rfl⟩:=Jbv hz;have h1:=ku hn (k:=i) (by omega);rw[g i hi,hl,JbE (by omega)] at h1;have h2:=ku rX (k:=i) (by omega);rw[g' i hi,Uo,JbE (by omega)] at h2;rw[h1,h2]
  by_cases q:i+1<B.length
  ·rw[g _ q,g' _ q]
  ·have e:i+1=B.length:=by omega
   rw[e,gx,gx']
theorem zW (Ws:List VC):kN Ws=((Ws.map vS).filter fun s=>decide (s.2.1=[])).length:=by
 rw[List.filter_map,Ρ];rfl
theorem Ay {L:List D} {x:D} (h:¬x∈L):kd L x=L:=by
 unfold kd;rw[List.filter_eq_self];exact fun a ha=>decide_eq_true fun e=>h (e▸ha)
theorem Kp {R:List D} (hn:R.Nodup) {x:D} (hx:x∈R):(∀z∈R,z≠x→ic (aJ (kd R x)) z=if ic R z=x then ic R x else ic R z)∧(ic R x=x↔kd R x=[]):=by
 obtain⟨X,Y,rfl⟩:=List.append_of_mem hx
 have RI:x∉X∧x∉Y:=by
  rw[JaL] at hn;exact⟨fun q=>hn.2.2 x q x (List.mem_cons_self ..) rfl,fun q=>(List.nodup_cons.1 hn.2.1).1 q⟩
 have ef:kd (X++x::Y) x=X++Y:=by
  have e1:=Ay RI.1;have e2:=Ay RI.2;unfold kd at e1 e2 ⊢;rw[List.filter_append,List.filter_cons,if_neg (by simp),e1,e2]
 have r1:sz (X++x::Y) ((Y++X)++[x]):=⟨X++[x],Y,by simp,by simp⟩;have r2:sz (X++Y) (Y++X):=⟨X,Y,rfl,rfl⟩;have rX:((Y++X)++[x]).Nodup:=r1.nodup hn;have hnf:(kd (X++x::Y) x).Nodup:=hn.filter _;have hm:∀z,z∈X++x::Y↔z∈(Y++X)++[x]:=fun z=>r1.mem z
 have n1:∀z∈X++x::Y,ic ((Y++X)++[x]) z=ic (X++x::Y) z:=fun z hz=>vV r1 hn hz
 rw[ef] at hnf
 have n2:∀z∈X++Y,ic (aJ (X++Y)) z=ic (Y++X) z:=fun z hz=>by
  rw[vV (iW (X++Y)) hnf hz,vV r2 hnf hz]
 rw[ef];obtain⟨B,gB⟩:=az (Y++X)
 have hXY:X++Y=[]↔B=[]:=by
  rw[←gB];constructor
  ·intro q;rw[List.append_eq_nil_iff] at q;rw[q.1,q.2];rfl
  ·intro q;rw[List.append_eq_nil_iff] at q;rw[q.1,q.2];rfl
 have hmB:∀z,z∈X++Y↔z∈B:=fun z=>by rw[←gB];exact r2.mem z
 rw[gB] at rX hm n1 n2;rw[hXY]
 have hBx:x∉B:=fun q=>by
  rw[←gB] at q;exact(Jan.1 q).elim RI.2 RI.1
 have in_:∀z∈X++x::Y,z≠x→z∈B:=fun z hz bQ=>((Jan.1 ((hm z).1 hz)).elim id fun q=>absurd (Jao.1 q) bQ)
 have nx:ic (X++x::Y) x=ic (B++[x]) x:=(n1 x hx).symm
 by_cases hB:B=[]
 ·refine⟨fun z hz bQ=>?_,⟨fun _=>hB,fun _=>?_⟩⟩
  ·have:=in_ z hz bQ
   rw[hB] at this;cases this
  ·rw[nx,hB];simp[ic]
 ·obtain⟨C,c,gC⟩:∃C c,B=C++[c]:=⟨B.dropLast,B.getLast hB,(List.dropLast_concat_getLast hB).symm⟩
  have Fi:(C++[c,x]).Nodup:=by rw[gC] at rX;simpa using rX
  have e2:B++[x]=C++[c,x]:=by rw[gC];simp
  obtain⟨q1,q2,q3⟩:=JR C c x Fi;rw[←e2] at q1 q2 q3;rw[←gC] at q2 q3;have hcB:c∈B:=by rw[gC];simp
  refine⟨fun z hz bQ=>?_,⟨fun q=>?_,fun q=>absurd q hB⟩⟩
  ·have XB:=in_ z hz bQ;rw[n2 z ((hmB z).2 XB),←n1 z hz,nx]
   by_cases hzc:z=c
   ·rw[hzc,q1,if_pos rfl,q2]
   ·have hzC:z∈C:=by
     rw[gC] at XB;exact(Jan.1 XB).elim id fun q=>absurd (Jao.1 q) hzc
    have NW:ic B z∈B:=mm XB;rw[q3 z hzC,if_neg (fun q:ic B z=x=>hBx (q▸NW))]
  ·rw[nx,q2] at q;have h9:ic B c∈B:=mm hcB;rw[q] at h9;exact absurd h9 hBx
theorem JC {Us Ms:List VC} (h:Us.map vS=Ms.map vS) (i:Nat) (y:I2):PX Us i y→PX Ms i y:=by
 rintro⟨u,hu,x,hx,e⟩;have hi:=congrArg (fun L:List ((Int × Int) × List D × ByteArray × Int)=>L[i]?) h;simp only[List.getElem?_map] at hi;rw[hu] at hi;cases hv:Ms[i]? with
 |none=>rw[hv] at hi;cases hi
 |some v=>
  rw[hv] at hi;have e1:vS u=vS v:=Μ hi;have e2:u.2.1.2.2.2=v.2.1.2.2.2:=congrArg (fun s:(Int × Int) × List D × ByteArray × Int=>s.2.1) e1;exact⟨v,hv,x,e2▸hx,e⟩
section
variable {Vs Us:List VC} {Es:List EC}
theorem IX (h:Us.map vS=Vs.map vS):yp Us Es=yp Vs Es:=by
 have hl:Us.length=Vs.length:=by simpa using congrArg List.length h
 have h1:nN Us Es=nN Vs Es:=by unfold nN;rw[LX h]
 have h2:kN Us=kN Vs:=by rw[zW,h,←zW]
 have h3:fP Us=fP Vs:=Gl hl (fun i y=>⟨JC h i y,JC h.symm i y⟩);unfold yp;rw[h1,h2,h3,hl]
end
structure il (S:SS):Prop where
 fit:eK S
 v24:S.1.length≤24
 e40:S.2.1.length≤40
 g400:S.2.2.length≤400
 vm:∀v∈S.1,bB v.1.1 v.1.2=τ∧dv v.2.2.1=τ∧kt v.2.2.2=τ
 em:∀e∈S.2.1,bB e.1.1 e.1.2=τ∧dv e.2.1=τ∧kt e.2.2=τ
 gr:fi S.2.2
theorem dt:il cC:=⟨⟨List.Pairwise.nil,List.Pairwise.nil,List.nodup_nil,fun v h=>(by cases h),fun v h=>(by cases h),fun v h=>(by cases h)⟩,by decide,by decide,by decide,fun v h=>(by cases h),fun v h=>(by cases h),trivial⟩
theorem EH {L:List Nm} (h:L.Pairwise (fun a b=>eN a b<0)) (hm:∀x∈L,bB x.1 x.2=τ):oT ε L=τ:=(kn L ε).2 ⟨hm,fun y h=>(by cases h),h⟩
theorem kp (Vs:List VC):aD Vs=(Vs.map vS).flatMap (fun v=>v.2.1):=(Og Vs).symm
theorem il.formed {S:SS} (h:il S) {Vs:List VC} (e:Vs.map vS=S.1):aV Vs S.2.1:=by
 have hk:Vs.map (·.1)=S.1.map (·.1):=by rw[←e,kx]
 have hr:aD Vs=S.1.flatMap (fun v=>v.2.1):=by rw[kp,e]
 have lX:Vs.length=S.1.length:=by rw[←e,Ρ]
 have hm:∀v∈Vs,vS v∈S.1:=fun v hv=>e▸Α.2 ⟨v,hv,rfl⟩
 refine⟨by rw[lX];exact h.v24,h.e40,?_,?_,?_,?_,?_,?_,?_,?_⟩
 ·rw[hk];refine EH (Jbg.2 h.fit.vup) (fun x hx=>?_);obtain⟨v,hv,rfl⟩:=Α.1 hx;exact(h.vm v hv).1
 ·refine EH (Jbg.2 h.fit.eup) (fun x hx=>?_);obtain⟨v,hv,rfl⟩:=Α.1 hx;exact(h.em v hv).1
 ·exact Φ.2 (fun v hv=>decide_eq_true (h.fit.turned _ (hm v hv)).symm)
 ·rw[hr]
  refine(List.perm_ext_iff_of_nodup h.fit.once (pB _ [] List.nodup_nil)).2 (fun d=>?_)
  rw[pr];constructor
  ·intro hd;obtain⟨v,hv,hd⟩:=Jat.1 hd;obtain⟨h1,h2⟩:=h.fit.known v hv d hd;obtain⟨e,he,e1⟩:=cT.1 h1;refine .inr ⟨e,he,?_⟩;have e1:e.1=(d.1,d.2.1):=e1;obtain⟨a,b,c⟩:=d;rw[e1];rcases h2 with h2|h2
   ·exact .inl (congrArg (fun z=>(a,b,z)) h2)
   ·exact .inr (congrArg (fun z=>(a,b,z)) h2)
  ·rintro (hd|⟨e,he,hd⟩)
   ·cases hd
   ·obtain⟨h1,h2⟩:=h.fit.ends e he;rcases hd with rfl|rfl
    ·obtain⟨v,hv,hd⟩:=cU.1 h1;exact Jat.2 ⟨v,hv,hd⟩
    ·obtain⟨v,hv,hd⟩:=cU.1 h2;exact Jat.2 ⟨v,hv,hd⟩
 ·exact Φ.2 (fun v hv=>(h.vm _ (hm v hv)).2.1)
 ·exact Φ.2 (fun v hv=>(h.em _ hv).2.1)
 ·exact Φ.2 (fun v hv=>(h.vm _ (hm v hv)).2.2)
 ·exact Φ.2 (fun v hv=>(h.em _ hv).2.2)
theorem aV.ok {Vs:List VC} {Es:List EC} (h:aV Vs Es) {G:List Gn} (hg:G.length≤400) (hr:fi G):il (Vs.map vS,Es,G):=by
 have hv:=(kn _ _).1 h.rv;have he:=(kn _ _).1 h.re;have hm:∀v∈Vs.map vS,∃u∈Vs,vS u=v:=fun v hv=>Α.1 hv
 refine⟨⟨?_,?_,?_,fun v hv=>?_,fun v hv d hd=>?_,fun e hE=>?_⟩,by rw[Ρ];exact h.v24,h.e40,hg,fun v hV=>?_,fun e hE=>?_,hr⟩
 ·exact Jbg.1 (kx Vs▸hv.2.2)
 ·exact Jbg.1 he.2.2
 ·exact kp Vs▸h.once
 ·obtain⟨u,hu,rfl⟩:=hm v hv;exact(of_decide_eq_true (Φ.1 h.tu u hu)).symm
 ·obtain⟨u,hu,rfl⟩:=hm v hv;obtain⟨e,hE,e1,e2⟩:=(h.mem d).1 (Jat.2 ⟨u,hu,hd⟩);exact⟨cT.2 ⟨e,hE,e1⟩,e2⟩
 ·have k:∀s:Int,s=0∨s=1→cF (Vs.map vS) (bg e.1 s)=τ:=fun s hs=>by
   obtain⟨v,hv,hd⟩:=Jat.1 ((h.mem (bg e.1 s)).2 ⟨e,hE,rfl,hs⟩);exact cU.2 ⟨vS v,Α.2 ⟨v,hv,rfl⟩,hd⟩
  exact⟨k 0 (.inl rfl),k 1 (.inr rfl)⟩
 ·obtain⟨u,hu,rfl⟩:=hm v hV;exact⟨hv.1 u.1 (Α.2 ⟨u,hu,rfl⟩),Φ.1 h.lv u hu,Φ.1 h.av u hu⟩
 ·exact⟨he.1 e.1 (Α.2 ⟨e,hE,rfl⟩),Φ.1 h.le e hE,Φ.1 h.ae e hE⟩
theorem qP {a b:Int} (h:bB a b=τ):1≤a∧a≤8∧1≤b∧b≤1048576:=of_decide_eq_true h
theorem xn {t:ByteArray} (h:dv t=τ):t.size≤16:=by
 unfold dv at h;rw[Jar] at h;exact of_decide_eq_true h.1
theorem vy {n:Int} (h1:0≤n) (h2:n≤1048576):(Lit.int .i64 n).wf=τ:=by
 have e1:Jaw.min= -9223372036854775808:=by decide
 have e2:Jaw.max=9223372036854775807:=by decide
 simp only[Lit.wf,e1,e2,Jar,decide_eq_true_eq];omega
theorem DM {x:Nm} {s:Int} (h:bB x.1 x.2=τ) (hs:s=0∨s=1):Rp (x.1,x.2,s):=by
 obtain⟨h1,h2,h3,h4⟩:=qP h;exact⟨vy (show 0≤x.1 by omega) (show x.1≤_ by omega),vy (show 0≤x.2 by omega) (show x.2≤_ by omega),vy (show 0≤s by omega) (show s≤_ by omega)⟩
theorem il.good {S:SS} (h:il S) {Vs:List VC} (e:Vs.map vS=S.1):rO Vs S.2.1:=by
 have hm:∀v∈Vs,vS v∈S.1:=fun v hv=>e▸Α.2 ⟨v,hv,rfl⟩
 refine⟨fun x hx d hd=>?_,fun e he=>⟨DM (h.em e he).1 (.inl rfl),DM (h.em e he).1 (.inr rfl)⟩,fun x hx=>?_,fun x hx=>?_⟩
 ·obtain⟨h1,h2⟩:=h.fit.known _ (hm x hx) d hd;obtain⟨e,he,e1⟩:=cT.1 h1
  have:=DM (h.em e he).1 h2
  rw[e1] at this;exact this
 ·have:=xn (h.vm _ (hm x hx)).2.1
  have h2:x.2.2.1.size≤16:=this;exact Λ h2 (by decide)
 ·exact Λ (xn (h.em _ hx).2.1) (by decide)
def upV (v:VS):VC:=(v.1,(ε,v.2.1.length,v.2.1.length,v.2.1),v.2.2)
theorem Jn (V:List VS):(V.map upV).map vS=V:=by
 rw[JaW];exact(List.map_congr_left (fun v _=>rfl)).trans (List.map_id V)
def ly (V:List VS) (E:List EC):Bool:=yp (V.map upV) E==0
theorem Jv (Vs:List VC) (E:List EC):ly (Vs.map vS) E=(yp Vs E==0):=by
 unfold ly;rw[IX (Jn _)]
theorem il.short {S:SS} (h:il S):∀v∈S.1,v.2.1.length≤80:=fun v hv=>by
 have h1:=(h.formed (Jn S.1)).l80;rw[kp,Jn] at h1
 have h2:v.2.1.length≤(S.1.flatMap (fun v=>v.2.1)).length:=by
  obtain⟨a,b,e⟩:=List.append_of_mem hv;rw[e,List.flatMap_append,List.flatMap_cons];simp only[Ε];omega
 exact Λ h2 h1
theorem Au (s n c:Int) (w:ο) (h:bB s n=τ):
 Ζ η 109 #[φ #[J s,J n,J c]] w fun e w'=>e=.returned (Β (decide (c=0)||decide (c=1)))∧σ w.heap.size w w':=by
 have hm:=iU s n;rw[h] at hm;have H:=qh hm;clear hm h
 by_cases c0:c=0
 ·subst c0;go_enter Tryz.func109,Tryz.ntmps109;go_wp2_with (first|(go_at_call 64;refine(H.out _).mono ?_;rintro e w' ⟨rfl,hb⟩;obtain⟨hc,hf⟩:=ec hb))
  go_ret;exact⟨rfl,aK hb⟩
 ·have h0:(c==0)=ρ:=by simpa using c0
  by_cases c1:c=1
  ·subst c1;go_enter Tryz.func109,Tryz.ntmps109;go_wp2_with (first|(go_at_call 64;refine(H.out _).mono ?_;rintro e w' ⟨rfl,hb⟩;obtain⟨hc,hf⟩:=ec hb))
   go_ret;exact⟨rfl,aK hb⟩
  ·have h1:(c==1)=ρ:=by simpa using c1
   have hr:(decide (c=0)||decide (c=1))=ρ:=by simp[c0,c1]
   rw[hr];clear hr;go_enter Tryz.func109,Tryz.ntmps109;go_wp2_with (first|(go_at_call 64;refine(H.out _).mono ?_;rintro e w' ⟨rfl,hb⟩;obtain⟨hc,hf⟩:=ec hb))
   go_ret;exact⟨rfl,aK hb⟩
theorem BI (s n c:Int) (w:ο) (h:bB s n=ρ):
 Ζ η 109 #[φ #[J s,J n,J c]] w fun e w'=>e=.returned (Β ρ)∧σ w.heap.size w w':=by
 have hm:=iU s n;rw[h] at hm;have H:=qh hm;clear hm h;go_enter Tryz.func109,Tryz.ntmps109;go_wp2_with (first|(go_at_call 64;refine(H.out _).mono ?_;rintro e w' ⟨rfl,hb⟩;obtain⟨hc,hf⟩:=ec hb))
 go_ret;exact⟨rfl,aK hb⟩
theorem zK (s n c:Int):Pure 109 #[φ #[J s,J n,J c]] (Β (G1 s n c)):=fun w=>by
 unfold G1;cases h:bB s n
 ·exact BI s n c w h
 ·exact Au s n c w h
theorem yN (s n c:Int) (w:ο) (h:bB s n=τ):
 Ζ η 97 #[φ #[J s,J n,J c]] w fun e w'=>e=.returned (Β (decide (c=0)||decide (c=1)))∧σ w.heap.size w w':=by
 have hm:=bp s n;rw[h] at hm;have H:=qh hm;clear hm h
 by_cases c0:c=0
 ·subst c0;go_enter Tryz.func97,Tryz.ntmps97;go_wp2_with (first|(go_at_call 28;refine(H.out _).mono ?_;rintro e w' ⟨rfl,hb⟩;obtain⟨hc,hf⟩:=ec hb))
  go_ret;exact⟨rfl,aK hb⟩
 ·have h0:(c==0)=ρ:=by simpa using c0
  by_cases c1:c=1
  ·subst c1;go_enter Tryz.func97,Tryz.ntmps97;go_wp2_with (first|(go_at_call 28;refine(H.out _).mono ?_;rintro e w' ⟨rfl,hb⟩;obtain⟨hc,hf⟩:=ec hb))
   go_ret;exact⟨rfl,aK hb⟩
  ·have h1:(c==1)=ρ:=by simpa using c1
   have hr:(decide (c=0)||decide (c=1))=ρ:=by simp[c0,c1]
   rw[hr];clear hr;go_enter Tryz.func97,Tryz.ntmps97;go_wp2_with (first|(go_at_call 28;refine(H.out _).mono ?_;rintro e w' ⟨rfl,hb⟩;obtain⟨hc,hf⟩:=ec hb))
   go_ret;exact⟨rfl,aK hb⟩
theorem yI (s n c:Int) (w:ο) (h:bB s n=ρ):
 Ζ η 97 #[φ #[J s,J n,J c]] w fun e w'=>e=.returned (Β ρ)∧σ w.heap.size w w':=by
 have hm:=bp s n;rw[h] at hm;have H:=qh hm;clear hm h;go_enter Tryz.func97,Tryz.ntmps97;go_wp2_with (first|(go_at_call 28;refine(H.out _).mono ?_;rintro e w' ⟨rfl,hb⟩;obtain⟨hc,hf⟩:=ec hb))
 go_ret;exact⟨rfl,aK hb⟩
theorem yK (s n c:Int):Pure 97 #[φ #[J s,J n,J c]] (Β (G1 s n c)):=fun w=>by
 unfold G1;cases h:bB s n
 ·exact yI s n c w h
 ·exact yN s n c w h
structure cO where
 (k s n s1 n1 s2 n2 a0 a1 a2 a3 a4 b0 b1 b2 b3 b4:Int)
 e:Bool
 t:ByteArray
 m:Int
deriving DecidableEq
def aa (o:cO):List ψ:=[J o.k,J o.s,J o.n,J o.s1,J o.n1,J o.s2,J o.n2,J o.a0,J o.a1,J o.a2,J o.a3,J o.a4,J o.b0,J o.b1,J o.b2,J o.b3,J o.b4,Β o.e,μ o.t,J o.m]
def oI (n:Int):Bool:=decide (-1099511627776≤n∧n≤1099511627776)
def mR (a0 a1 a2 a3 a4:Int):Bool:=bB a0 a1 && (decide (a2=0∧a3=0∧a4=0)||G1 a2 a3 a4)
theorem yW (n:Int):Pure 89 #[J n] (Β (oI n)):=fun w=>by
 unfold oI
 by_cases h1:-1099511627776≤n
 ·by_cases h2:n≤1099511627776
  ·rw[decide_eq_true ⟨h1,h2⟩];go_enter Tryz.func89,Tryz.ntmps89;go_wp2;go_ret;exact⟨rfl,Θ _ _⟩
  ·rw[decide_eq_false (fun h=>h2 h.2)];go_enter Tryz.func89,Tryz.ntmps89;go_wp2;go_ret;exact⟨rfl,Θ _ _⟩
 ·rw[decide_eq_false (fun h=>h1 h.1)];go_enter Tryz.func89,Tryz.ntmps89;go_wp2;go_ret;exact⟨rfl,Θ _ _⟩
theorem sr (a b c:Int) (W:ο):(binOp .eql 32 (φ #[J a,J b,J c]) (φ #[J 0,J 0,J 0])).run η W=.ok (Β (decide (a=0∧b=0∧c=0))) W:=by
 by_cases h1:a=0<;>by_cases h2:b=0<;>by_cases h3:c=0<;>simp[go_sem,h1,h2,h3]
theorem p8 (a0 a1 a2 a3 a4:Int):Pure 88 #[φ #[J a0,J a1,J a2,J a3,J a4]] (Β (mR a0 a1 a2 a3 a4)):=fun w=>by
 unfold mR;have hm:=iU a0 a1;have hd:=zK a2 a3 a4;have hq:=sr a2 a3 a4;cases h:bB a0 a1
 ·rw[h] at hm;have H:=qh hm;clear hm hd hq h;go_enter Tryz.func88,Tryz.ntmps88;go_wp2_with (first|(go_at_call 64;refine(H.out _).mono ?_;rintro e w' ⟨rfl,hb⟩;obtain⟨hc,hf⟩:=ec hb))
  go_ret;exact⟨rfl,aK hb⟩
 ·rw[h] at hm;have H:=qh hm
  by_cases hz:a2=0∧a3=0∧a4=0
  ·rw[decide_eq_true hz] at hq ⊢;clear hm hd h hz;go_enter Tryz.func88,Tryz.ntmps88;go_wp2_with (first|(go_at_call 64;refine(H.out _).mono ?_;rintro e w' ⟨rfl,hb⟩;obtain⟨hc,hf⟩:=ec hb))
   go_ret;exact⟨rfl,aK hb⟩
  ·rw[decide_eq_false hz] at hq ⊢;have HD:=qh hd;clear hm hd h hz;go_enter Tryz.func88,Tryz.ntmps88
   go_wp2_with (first
    |(go_at_call 64;refine(H.out _).mono ?_;rintro e w' ⟨rfl,hb⟩;obtain⟨hc,hf⟩:=ec hb)
    |(go_at_call 109;refine(HD.out _).mono ?_;rintro e cD ⟨rfl,ar⟩))
   go_ret;exact⟨by simp,(aK hb).trans (ar.mono (aK hb).size)⟩
def eH (o:cO):Bool:=
 if o.k=1∨o.k=2∨o.k=4∨o.k=7 then τ
 else if o.k=3 then mR o.a0 o.a1 o.a2 o.a3 o.a4 && mR o.b0 o.b1 o.b2 o.b3 o.b4
 else if o.k=5 then bB o.s1 o.n1 && bB o.s2 o.n2 && decide (0≤o.m∧o.m≤3)
 else if o.k=6 then bB o.s2 o.n2
 else if o.k=8 then oI o.m
 else ρ
theorem M3 (k s n s1 n1 s2 n2 a0 a1 a2 a3 a4 b0 b1 b2 b3 b4:Int) (e:Bool) (t:ByteArray) (m:Int):Pure 65 #[φ #[J k,J s,J n,J s1,J n1,J s2,J n2,J a0,J a1,J a2,J a3,J a4,J b0,J b1,J b2,J b3,J b4,Β e,μ t,J m]] (Β (eH ⟨k,s,n,s1,n1,s2,n2,a0,a1,a2,a3,a4,b0,b1,b2,b3,b4,e,t,m⟩)):=fun w=>by
 unfold eH;simp only
 by_cases k1:k=1
 ·subst k1;rw[if_pos (by decide)];go_enter Tryz.func65,Tryz.ntmps65;go_wp2;go_ret;exact⟨rfl,ax _ _⟩
 have q1:(k==1)=ρ:=by simpa using k1
 by_cases k2:k=2
 ·subst k2;rw[if_pos (by decide)];go_enter Tryz.func65,Tryz.ntmps65;go_wp2;go_ret;exact⟨rfl,ax _ _⟩
 have q2:(k==2)=ρ:=by simpa using k2
 by_cases k4:k=4
 ·subst k4;rw[if_pos (by decide)];go_enter Tryz.func65,Tryz.ntmps65;go_wp2;go_ret;exact⟨rfl,ax _ _⟩
 have q4:(k==4)=ρ:=by simpa using k4
 by_cases k7:k=7
 ·subst k7;rw[if_pos (by decide)];go_enter Tryz.func65,Tryz.ntmps65;go_wp2;go_ret;exact⟨rfl,ax _ _⟩
 have q7:(k==7)=ρ:=by simpa using k7
 rw[if_neg (by omega)]
 by_cases k3:k=3
 ·subst k3;rw[if_pos rfl];have ha:=p8 a0 a1 a2 a3 a4;have Er:=p8 b0 b1 b2 b3 b4;obtain⟨A,gA⟩:=az (mR a0 a1 a2 a3 a4);obtain⟨B,gB⟩:=az (mR b0 b1 b2 b3 b4);rw[gA] at ha ⊢;rw[gB] at Er ⊢;have HA:=qh ha;have HB:=qh Er;clear ha Er gA gB k1 k2 k4 k7 q1 q2 q4 q7;have tok:True:=trivial;cases A
  ·go_enter Tryz.func65,Tryz.ntmps65
   go_wp2_with (first
    |(go_at_call 88;refine(HA.out _).mono ?_;rintro e w1 ⟨rfl,fe⟩;obtain⟨tN,rF⟩:=ec fe))
   go_ret;exact⟨rfl,aK fe⟩
  ·go_enter Tryz.func65,Tryz.ntmps65
   go_wp2_with (first
    |(go_at_call 88;have _t:=tok;refine(HA.out _).mono ?_;rintro e w1 ⟨rfl,fe⟩;obtain⟨tN,rF⟩:=ec fe;clear tok)
    |(go_at_call 88;refine(HB.out _).mono ?_;rintro e w2 ⟨rfl,ar⟩;obtain⟨wy,Jy⟩:=ec ar))
   go_ret;exact⟨by first|(simp;done)|(simp;omega),(aK fe).trans (ar.mono (aK fe).size)⟩
 rw[if_neg k3];have q3:(k==3)=ρ:=by simpa using k3
 by_cases k5:k=5
 ·subst k5;rw[if_pos rfl];have ha:=iU s1 n1;have Er:=iU s2 n2;obtain⟨A,gA⟩:=az (bB s1 n1);obtain⟨B,gB⟩:=az (bB s2 n2);rw[gA] at ha ⊢;rw[gB] at Er ⊢;have HA:=qh ha;have HB:=qh Er;clear ha Er gA gB k1 k2 k4 k7 q1 q2 q4 q7 k3 q3;have tok:True:=trivial;cases A
  ·go_enter Tryz.func65,Tryz.ntmps65
   go_wp2_with (first
    |(go_at_call 64;refine(HA.out _).mono ?_;rintro e w1 ⟨rfl,fe⟩;obtain⟨tN,rF⟩:=ec fe))
   go_ret;exact⟨rfl,aK fe⟩
  ·cases B
   ·go_enter Tryz.func65,Tryz.ntmps65
    go_wp2_with (first
     |(go_at_call 64;have _t:=tok;refine(HA.out _).mono ?_;rintro e w1 ⟨rfl,fe⟩;obtain⟨tN,rF⟩:=ec fe;have EN:w.heap.size<w1.heap.size:=JaK (by simp) fe.size;clear tok)
     |(go_at_call 64;refine(HB.out _).mono ?_;rintro e w2 ⟨rfl,ar⟩;obtain⟨wy,Jy⟩:=ec ar))
    go_ret;exact⟨by first|(simp;done)|(simp;omega),(aK fe).trans (ar.mono (aK fe).size)⟩
   ·by_cases m0:0≤m
    ·by_cases m3:m≤3
     ·have hd:decide (0≤m∧m≤3)=τ:=decide_eq_true ⟨m0,m3⟩;rw[hd];clear hd;go_enter Tryz.func65,Tryz.ntmps65
      go_wp2_with (first
       |(go_at_call 64;have _t:=tok;refine(HA.out _).mono ?_;rintro e w1 ⟨rfl,fe⟩;obtain⟨tN,rF⟩:=ec fe;have EN:w.heap.size<w1.heap.size:=JaK (by simp) fe.size;clear tok)
       |(go_at_call 64;refine(HB.out _).mono ?_;rintro e w2 ⟨rfl,ar⟩;obtain⟨wy,Jy⟩:=ec ar))
      go_ret;exact⟨by first|(simp;done)|(simp;omega),(aK fe).trans (ar.mono (aK fe).size)⟩
     ·have hd:decide (0≤m∧m≤3)=ρ:=decide_eq_false (fun h=>m3 h.2);rw[hd];clear hd;go_enter Tryz.func65,Tryz.ntmps65
      go_wp2_with (first
       |(go_at_call 64;have _t:=tok;refine(HA.out _).mono ?_;rintro e w1 ⟨rfl,fe⟩;obtain⟨tN,rF⟩:=ec fe;have EN:w.heap.size<w1.heap.size:=JaK (by simp) fe.size;clear tok)
       |(go_at_call 64;refine(HB.out _).mono ?_;rintro e w2 ⟨rfl,ar⟩;obtain⟨wy,Jy⟩:=ec ar))
      go_ret;exact⟨by first|(simp;done)|(simp;omega),(aK fe).trans (ar.mono (aK fe).size)⟩
    ·have hd:decide (0≤m∧m≤3)=ρ:=decide_eq_false (fun h=>m0 h.1);rw[hd];clear hd;go_enter Tryz.func65,Tryz.ntmps65
     go_wp2_with (first
      |(go_at_call 64;have _t:=tok;refine(HA.out _).mono ?_;rintro e w1 ⟨rfl,fe⟩;obtain⟨tN,rF⟩:=ec fe;have EN:w.heap.size<w1.heap.size:=JaK (by simp) fe.size;clear tok)
      |(go_at_call 64;refine(HB.out _).mono ?_;rintro e w2 ⟨rfl,ar⟩;obtain⟨wy,Jy⟩:=ec ar))
     go_ret;exact⟨by first|(simp;done)|(simp;omega),(aK fe).trans (ar.mono (aK fe).size)⟩
 rw[if_neg k5];have q5:(k==5)=ρ:=by simpa using k5
 by_cases k6:k=6
 ·subst k6;rw[if_pos rfl];have H:=qh (iU s2 n2);obtain⟨A,gA⟩:=az (bB s2 n2);rw[gA] at H ⊢;clear gA k1 k2 k4 k7 q1 q2 q4 q7 k3 q3 k5 q5;go_enter Tryz.func65,Tryz.ntmps65
  go_wp2_with (first
   |(go_at_call 64;refine(H.out _).mono ?_;rintro e w1 ⟨rfl,fe⟩;obtain⟨tN,rF⟩:=ec fe))
  go_ret;exact⟨rfl,aK fe⟩
 rw[if_neg k6];have q6:(k==6)=ρ:=by simpa using k6
 by_cases k8:k=8
 ·subst k8;rw[if_pos rfl];have H:=qh (yW m);obtain⟨A,gA⟩:=az (oI m);rw[gA] at H ⊢;clear gA k1 k2 k4 k7 q1 q2 q4 q7 k3 q3 k5 q5 k6 q6;go_enter Tryz.func65,Tryz.ntmps65
  go_wp2_with (first
   |(go_at_call 89;refine(H.out _).mono ?_;rintro e w1 ⟨rfl,fe⟩;obtain⟨tN,rF⟩:=ec fe))
  go_ret;exact⟨rfl,aK fe⟩
 ·have q8:(k==8)=ρ:=by simpa using k8
  rw[if_neg k8];clear k1 k2 k4 k7 k3 k5 k6 k8;go_enter Tryz.func65,Tryz.ntmps65;go_wp2;go_ret;exact⟨rfl,ax _ _⟩
end Go.Proofs.YtpdpbfmiahjiiaaGreat
