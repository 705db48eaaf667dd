/- Several texts in one. -/
import Derived.Test.YtpdpbfmiahjiiaaGreatPzA
import Derived.Test.YtpdpbfmiahjiiaaGreatPzC
import Derived.Test.YtpdpbfmiahjiiaaGreatPzE
import Derived.Test.YtpdpbfmiahjiiaaGreatPzF
import Derived.LoopIn
import Derived.LoopNIn
import Derived.OwnWalkIn
import Derived.RangeFuncBound
import Derived.RangeFuncCalls
import Derived.RangeFuncLeaves
import Derived.RangeFuncNested
import Derived.Shelf.Abstract
import Derived.Shelf.RegionOpen
import Derived.TacticsInMore
import Derived.WalkKit
import Derived.Maps.AppendAt
import Derived.Shelf.SlSortCmp.WholeK
import Derived.Shelf.SlSortCmp.NoneTotal
import Derived.Test.YtpdpbfmiahjiiaaGreatShelf
set_option linter.unusedSectionVars false
set_option linter.unusedSimpArgs false
set_option linter.unusedVariables false
set_option maxRecDepth 100000
set_option maxHeartbeats 16000000
namespace Go.Proofs.YtpdpbfmiahjiiaaGreat
open Go.RowKit
open _root_.Go.Value renaming slice→γ,string→μ,pointer→υ,agg→φ,bool→Β,tuple→Ξ,slice→Ο,oneCell'→Τ
open _root_.Go.Obj renaming cells→δ
open _root_.Option renaming none→ε,some→ζ,some→Jae
open _root_.Go.Proofs.Tryz renaming prog→η
open _root_.List renaming getElem?_eq_getElem→θ,map_cons→ι,getElem?_eq_some_iff→ν,map_nil→π,getD_eq_getElem?_getD→χ,mem_of_getElem?→ω,mem_map→Α,length_append→Ε,mem_cons→Η,length_map→Ρ,all_eq_true→Φ,drop_eq_getElem_cons→Χ,getElem?_map→Ψ,range→Ω,mem_cons_of_mem→Jad,getElem?_cons_succ→Jag,getElem?_cons_zero→Jah,mem_cons_self→Jai,getElem?_toArray→Jaj,mem_append→Jan,mem_singleton→Jao,mem_flatMap→Jat,length_take→JaA,mem_filter→JaC,length_cons→JaH,nodup_cons→JaJ,nodup_append→JaL,take_succ_eq_append_getElem→JaQ,map_append→JaU,take_add_one→Jbc,take_append_drop→Jbf,length_pos_of_mem→Jbk,filter_cons→Jbm,getElem_mem→Jbs,getElem_of_mem→Jbv,flatMap_cons→Jby
open _root_.Go.Act renaming put→ξ
open _root_.Go renaming World→ο,Value→ψ,Calls→Ζ,Addr→Κ,TypeId→Υ,bodyPost_ret→JaN,getD_set_ne→Jbq
open _root_.Bool renaming false→ρ,true→τ
open _root_.Go.RowKit renaming Below→σ
open _root_.Nat renaming le_refl→Δ,add_zero→Jac,zero_le→Jas,zero_add→JaI,lt_or_ge→JaM,mod_eq_of_lt→JbE
open _root_.Go.RowKit.Below renaming refl→Θ
open _root_.Option.some renaming inj→Μ
open _root_.Go.Addr renaming add_lit→Ν
open _root_.Array renaming getElem?_eq_some_iff→Jaa,getD→JaD,replicate→Jbe
open _root_.Go.Region renaming ready→Jaq,Mode→Jbj,noSelect→JbJ,free→JbP
open _root_.Go.IntKind renaming i64→Jaw
open _root_.Prod.mk renaming injEq→Jba
open _root_.Go.IntWalk renaming i64_in→Jbb
open _root_.Go.World renaming block_lt_of_cell?→Jbx
def xI (R:List D):Nat→(D→Option D)→D→Option D
 |0,f=>f
 |k+1,f=>fun y=>if y=R.getD k (0,0,0) then ζ (R.getD ((k+1) % R.length) (0,0,0)) else xI R k f y
def xJ:List VC→(D→Option D)→D→Option D
 |[],f=>f
 |v::r,f=>xJ r (xI v.2.1.2.2.2 v.2.1.2.2.2.length f)
def gi (Vs:List VC):D→Option D:=xJ Vs (fun _=>ε)
def ux (f:D→Option D) (y:D):Option ψ:=(f y).map dV
theorem RC (f:D→Option D) (x z:D):(fun y=>if y=x then ζ (dV z) else ux f y)=ux (fun y=>if y=x then ζ z else f y):=by
 funext y
 unfold ux
 by_cases h:y=x<;>simp[h]
theorem EE (A:Option Κ) (n c:Nat) (Vs:List VC) (B:Option Κ) (m k:Nat) (Es:List EC) (w:ο) (h:bz w A n c Vs B m k Es) (hn:n≤1000000) (hr:∀x∈Vs,x.2.1.2.1≤1000000) (hv:∀v∈Vs,∀d∈v.2.1.2.2.2,su d):
 Ζ η 181 #[φ #[γ A n c,γ B m k]] w fun e w'=>∃b q S,e=.returned (.map (ζ b))∧cA w' b q (ux (gi Vs)) S∧q≤1000000000000∧w.heap.size≤b∧σ w.heap.size w w':=by
 have HV:=qh h.v;have sw:=qh h.r;have oG:=qh (h.v.rlen aS (by decide));have Hhv:=qh hv;have AL:=qh hr;obtain⟨sg,gsg⟩:=aB (gi Vs);have Pg:=qh gsg;rw[gsg];clear h hv hr gsg;have Ee:=@run_makeMap η;go_enter Tryz.func181,Tryz.ntmps181;go_upto_region 1 with fail
 obtain⟨W0,b0,bO,bp,aQ,bw,mQ,lZ,oa⟩:=yj w 25 [γ A n c,γ B m k];rw[bO,bp];clear bO bp;have FR:Hid (∃S,cA (W0.alloc (.map #[] 0)) W0.heap.size (0*1000000) (ux (fun _=>ε)) S):=qh ⟨[],show cA _ _ _ (fun _=>ε) _ from(cA.made).mono (by omega)⟩;have lX:=qh (aI bw.out (.map #[] 0));have Ej:Hid (w.heap.size≤W0.heap.size):=qh bw.out.size;have c0:=(aQ.out.al (.map #[] 0)).cell (i:=0) rfl;have Z5:Hid (sg=xJ (Vs.drop 0) (fun _=>ε)):=qh (by rw[←Pg.out,List.drop_zero];rfl);go_wp2;clear c0 Ee;obtain⟨W2,eU⟩:=aB (W0.alloc (.map #[] 0));obtain⟨bm,EP⟩:=aB W0.heap.size;rw[eU] at FR lX ⊢;rw[EP] at FR Ej ⊢;clear eU EP aQ bw mQ Pg;go_loopw [12] (fun si wr=>∃(i:Nat) (f:D→Option D),i≤n∧si=J i∧Hid (σ w.heap.size w wr)∧Hid (∃S,cA wr bm (i*1000000) (ux f) S)∧Hid (sg=xJ (Vs.drop i) f)) (fun si _=>n - (intOf si).toNat)
 case atStart=>exact⟨0,_,by omega,rfl,lX,FR,Z5⟩
 case round=>
  clear lX FR Z5;obtain⟨i,f,hi,rfl,HB,HM,HF⟩:=hrel;obtain⟨wo,cS⟩:=aB wr;rw[cS] at HB HM ⊢;clear cS
  by_cases jm:i<n
  ·obtain⟨v,hx⟩:∃v,Vs[i]? =ζ v:=⟨_,θ (by have:=oG.out;omega)⟩
   have kd:Vs.drop i=v::Vs.drop (i+1):=by
    rw[Χ (ν.1 hx).1,(ν.1 hx).2]
   have xM:=ω hx;have uH:=sw.out v xM;have kc:=AL.out v xM;have YW:=Hhv.out v xM;have hF:=HF.out;rw[kd,xJ] at hF;obtain⟨bb,off,rfl,aY,a8⟩:=HV.out.place aS (by decide) (by omega);have bC:=HB.out;have q0:=a8 i _ hx 0 _ rfl;have q1:=a8 i _ hx 1 _ rfl;have q2:=a8 i _ hx 2 _ rfl;have q3:=a8 i _ hx 3 _ rfl;have q4:=a8 i _ hx 4 _ rfl;simp only[Ν,Jac] at q0 q1 q2 q3 q4;have l0:=(bC.cell (p:=⟨bb,off+i*5,ε⟩) aY).trans q0;have l1:=(bC.cell (p:=⟨bb,off+i*5+1,ε⟩) aY).trans q1;have l2:=(bC.cell (p:=⟨bb,off+i*5+2,ε⟩) aY).trans q2;have l3:=(bC.cell (p:=⟨bb,off+i*5+3,ε⟩) aY).trans q3;have l4:=(bC.cell (p:=⟨bb,off+i*5+4,ε⟩) aY).trans q4;clear bC q0 q1 q2 q3 q4;obtain⟨⟨i1,i2⟩,⟨rA,rn,rc,rL⟩,lb,at_⟩:=v;replace kc:rn≤1000000:=kc;have HR:Hid (bg w w.heap.size 3 rA rn rc (aA rL)):=qh uH.2;have UM:=qh HR.out.dlen;have Hwf:Hid (∀d∈rL,su d):=qh YW;have Bh:Hid (sg=xJ (Vs.drop (i+1)) (xI rL rL.length f)):=qh hF;have Gi:=qh (aI HB.out (δ #[J i1,J i2,γ rA rn rc,μ lb,J at_] 59));have X4:Hid (∃S,cA (wo.alloc (δ #[J i1,J i2,γ rA rn rc,μ lb,J at_] 59)) bm (i*1000000+0) (ux (xI rL 0 f)) S):=qh (by obtain⟨S,hS⟩:=HM.out;exact⟨S,(hS.mono (by omega)).al _⟩);have Zt:=qh (Whole.new2 (w:=wo) (t:=59) (cs:=[J i1,J i2,γ rA rn rc,μ lb,J at_]) rfl);have XX:Hid (w.heap.size≤wo.heap.size):=qh HB.out.size
   have HNb:Hid (wo.heap.size≠bm):=qh (by obtain⟨S,hS⟩:=HM.out;have:=hS.lt;omega);have c2:=Zt.out.cell (i:=2) rfl;clear hx kd xM uH YW hF a8 aY HF HM;go_wp2;clear l0 l1 l2 l3 l4 HB c2;obtain⟨wa,Sd⟩:=aB (wo.alloc (δ #[J i1,J i2,γ rA rn rc,μ lb,J at_] 59));obtain⟨b5,FU⟩:=aB wo.heap.size;rw[Sd] at Gi X4 Zt ⊢;rw[FU] at Zt XX HNb ⊢;clear Sd FU;go_loopw [19] (fun sj wr=>∃j:Nat,j≤rn∧sj=J j∧Hid (σ w.heap.size w wr)∧Hid (∃S,cA wr bm (i*1000000+j) (ux (xI rL j f)) S)∧Hid (Whole wr b5 59 [J i1,J i2,γ rA rn rc,μ lb,J at_])) (fun sj _=>rn - (intOf sj).toNat)
   case atStart=>exact⟨0,by omega,rfl,Gi,X4,Zt⟩
   case round=>
    clear Gi X4 Zt;obtain⟨j,hj,rfl,HB,HM,HX⟩:=hrel;obtain⟨wi,wE⟩:=aB wr;rw[wE] at HB HM HX ⊢;clear wE
    by_cases hjr:j<rn
    ·obtain⟨b,um,rfl,hb,hc⟩:=(HR.out.up HB.out HB.out.size).darts (by omega);have qq:j<rL.length:=by have:=UM.out;omega
     obtain⟨d1,d2,d3⟩:=hc j qq;obtain⟨j2,gj2⟩:=aB ((j+1) % rn);have KJ:j2<rn:=by rw[←gj2];exact Nat.mod_lt _ (by omega)
     obtain⟨f1,f2,f3⟩:=hc j2 (by have:=UM.out;omega);have amW:Jaw.wrap ((j:Int)+1)=(j:Int)+1:=Jbb _ (by omega);have Fq:((j:Int)+1) % (rn:Int)=(j2:Int):=by rw[←gj2,Int.natCast_emod,Int.natCast_add];rfl
     have ajR:((j:Int)+1).tmod (rn:Int)=(j2:Int):=by rw[Int.tmod_eq_emod_of_nonneg (by omega)];exact Fq
     have amS:Jaw.wrap (j2:Int)=(j2:Int):=Jbb _ (by omega);have amF:((rn:Int)==0)=ρ:=beq_eq_false_iff_ne.2 (by omega);have akZ:¬rn=0:=by omega
     have tR:xI rL (j+1) f=fun y=>if y=rL.getD j (0,0,0) then ζ (rL.getD j2 (0,0,0)) else xI rL j f y:=by
      rw[xI,UM.out,gj2]
     have Xk:rL[j]=rL.getD j (0,0,0):=by rw[χ,θ qq];rfl
     have OV:=Hwf.out (rL.getD j (0,0,0)) (by rw[←Xk];exact Jbs qq);obtain⟨x,gx⟩:=aB (rL.getD j (0,0,0));obtain⟨z,gz⟩:=aB (rL.getD j2 (0,0,0));rw[gx] at d1 d2 d3 tR OV;rw[gz] at f1 f2 f3 tR;obtain⟨x1,x2,x3⟩:=x;obtain⟨z1,z2,z3⟩:=z;have TV:=qh tR;have Z3:=qh OV;have D6:=qh (aI HB.out (δ #[J x1,J x2,J x3] 32));have Px:Hid (∃S,cA (wi.alloc (δ #[J x1,J x2,J x3] 32)) bm (i*1000000+j) (ux (xI rL j f)) S):=qh (by obtain⟨S,hS⟩:=HM.out;exact⟨S,hS.al _⟩);have NL:=qh (HX.out.al (δ #[J x1,J x2,J x3] 32));have X3:=qh (Whole.new2 (w:=wi) (t:=32) (cs:=[J x1,J x2,J x3]) rfl);have HF_:=qh (show ∀W,σ wi.heap.size wi W→W.cell? ⟨b,um+j2*3,ε⟩=ζ (J z1)∧W.cell? ⟨b,um+j2*3+1,ε⟩=ζ (J z2)∧W.cell? ⟨b,um+j2*3+2,ε⟩=ζ (J z3) from fun W hw=>⟨(hw.cell (p:=⟨b,um+j2*3,ε⟩) (Jbx _ _ f1)).trans f1,(hw.cell (p:=⟨b,um+j2*3+1,ε⟩) (Jbx _ _ f2)).trans f2,(hw.cell (p:=⟨b,um+j2*3+2,ε⟩) (Jbx _ _ f3)).trans f3⟩);clear hc hb gx Xk gz qq tR OV gj2 HB HM HX f1 f2 f3;go_upto_region 8 with fail
     clear d1 d2 d3;obtain⟨g1,g2,g3⟩:=HF_.out _ (az wi (δ #[J x1,J x2,J x3] 32));obtain⟨wj,gwj⟩:=aB (wi.alloc (δ #[J x1,J x2,J x3] 32));obtain⟨b7,TA⟩:=aB wi.heap.size;rw[gwj] at D6 Px NL X3 g1 g2 g3 ⊢;rw[TA] at X3 ⊢;clear gwj TA HF_;have fL:=cm (i:=0) X3.out rfl;have ld1:=cm (i:=1) X3.out rfl;have ka:=cm (i:=2) X3.out rfl;have pV:=cm (i:=2) NL.out rfl;have tX:∀w',Kept aO wj.drew w'→w'.cell? ⟨b,um+j2*3,ε⟩=ζ (J z1):=fun w' h=>h.nil_cell (show wj.drew.cell? _=_ from g1)
     have yc:∀w',Kept aO wj.drew w'→w'.cell? ⟨b,um+j2*3+1,ε⟩=ζ (J z2):=fun w' h=>h.nil_cell (show wj.drew.cell? _=_ from g2)
     have ld6:∀w',Kept aO wj.drew w'→w'.cell? ⟨b,um+j2*3+2,ε⟩=ζ (J z3):=fun w' h=>h.nil_cell (show wj.drew.cell? _=_ from g3)
     clear X3 g1 g2 g3;refine cI (aO) [12] (by kernel_rfl) ?_;refine aU 0 ?_;refine aU 1 ?_;refine aU 2 ?_;refine aU 3 ?_;refine aU 4 ?_;refine aU 5 ?_;refine aU 6 ?_;refine aU 7 ?_;refine aU 8 ?_;refine aU 9 ?_;refine aU 10 ?_;refine aU 11 ?_;refine qu 12 ?_;intro w' aC;have xi:i*1000000+j<maxLen:=by unfold maxLen;omega
     obtain⟨S,hS⟩:=Px.out;obtain⟨w3,bV,Hw,KK⟩:=(hS.dr.bl aC).put (x:=(x1,x2,x3)) Tryz.underlying184 xi Z3.out (dV (z1,z2,z3))
     refine⟨w3,oZ (by rfl) (by rfl) (by rfl) (by rfl) bV,?_⟩
     rw[RC] at Hw;have O2:Hid (∃S,cA w3 bm (i*1000000+(j+1)) (ux (xI rL (j+1) f)) S):=qh ⟨_,by rw[TV.out];exact Hw.mono (by omega)⟩;have zt:=qh ((NL.out.dr.bl aC).grown KK (fun e=>HNb.out (Μ e)));have sx:=qh (zC (ag (aN D6.out) aC) KK Ej.out);clear aC bV Hw KK hS xi Px NL D6;(try simp only[ξ,aw,ar,aq]);refine gG (by kernel_rfl) ?_ _;intro W8 cg;have nV:=qh (ag sx.out cg);have ue:=qh (zt.out.bl cg);have yu:Hid (∃S,cA W8 bm (i*1000000+(j+1)) (ux (xI rL (j+1) f)) S):=qh (by obtain⟨S,hS⟩:=O2.out;exact⟨S,hS.bl cg⟩);clear cg sx zt O2;go_wp2;go_roundw
     case rel=>exact⟨j+1,by omega,by go_num,nV,yu,ue⟩
     case measure=>simp[intOf]<;>omega
    ·obtain rfl:rn=j:=by omega
     have WL:Hid (∃S,cA wi bm ((i+1)*1000000) (ux (xI rL rn f)) S):=qh (by obtain⟨S,hS⟩:=HM.out;exact⟨S,hS.mono (by omega)⟩);have Gx:Hid (sg=xJ (Vs.drop (i+1)) (xI rL rn f)):=qh (by rw[←UM.out];exact Bh.out);clear HM Bh;go_wp2;go_roundw
     case rel=>exact⟨i+1,_,by omega,by go_num,HB,WL,Gx⟩
     case measure=>simp[intOf]<;>omega
  ·obtain rfl:n=i:=by omega
   have hF:=HF.out;rw[List.drop_eq_nil_of_le (by have:=oG.out;omega)] at hF;replace hF:sg=f:=hF;subst hF;go_wp2;go_ret;obtain⟨S,hS⟩:=HM.out;exact⟨bm,_,S,rfl,hS,by omega,Ej.out,HB.out⟩
section
variable {P:Program} {ops:Array Oper} {Q:Exit→Act→ο→Prop} {md:Jbj}
def NR (md:Jbj) (ops:Array Oper) (n e:Nat):Bool:=(Ω ops.size).all fun k=>decide (k<n)||match ops[k]? with|some o=>(Ω n).all fun j=>j==e||(dB md o).contains j|none=>τ
theorem Eo {n e k:Nat} {o:Oper} (h:NR md ops n e=τ) (hk:n≤k) (ho:ops[k]? =ζ o):∀j,j<n→j≠e→j∈dB md o:=by
 intro j hj D0;have U3:=(Jaa.1 ho).1;have h1:=Φ.1 h k (by simp[U3]);rw[ho] at h1;have h2:decide (k<n)=ρ:=decide_eq_false (by omega);simp only[h2,Bool.false_or] at h1;have h3:=Φ.1 h1 j (by simp[hj]);have h4:(j==e)=ρ:=by simpa using D0
 rw[h4,Bool.false_or] at h3;simpa using h3
theorem Jo (n e:Nat) (S:Nat→Prop) {oe:Oper} (Γ:Nat→ψ→ο→Prop) (G:ο→Prop) (a0:Act) (hΓ:∀i v w w',Γ i v w→Ext w w'→Γ i v w') (hG:∀w w',G w→Ext w w'→G w')
 (hd:eL ops=τ) (hr:lC md ops=τ) (hn:n≤ops.size) (ht:NR md ops n e=τ) (hen:e<n) (Ke:ops[e]? =ζ oe) (qO:JbJ ops=τ)
 (Iv:JbP md ops ((jl n ops.size).setIfInBounds e ρ) e=τ) (GI:(Jaq md ops ((jl n ops.size).setIfInBounds e ρ)).contains e=τ)
 (hQ:∀v c a w,Q (.panic c) (a.put oe.dst v) w→Q (.panic c) a w) (lp:∀i,i<n→nU P md ops Γ G a0 i)
 (DI:∀x w,G w→(∀i,i<n→i≠e→Γ i (x i) w)→∃v,cM P ops S oe v (aj x (aE ops) 0 a0) w∧Γ e v w)
 (jw:∀x w,G w→(∀i,i<n→Γ i (x i) w)→nc P md ops S Q (ops.size - n) (jl n ops.size) (aj x (aE ops) 0 a0) w):
 ∀(fuel:Nat) (af:Array Bool) (x:Nat→ψ) (w:ο),af.size=ops.size→(∀k,n≤k→k<ops.size→af.getD k ρ=ρ)→(Ω ops.size).countP (fun j=>af.getD j ρ)+fuel=ops.size→
  G w→(∀i,i<n→af.getD i ρ=τ→Γ i (x i) w)→wpAny P md ops Q fuel af (aj x (aE ops) 0 a0) w:=by
 have ml:∀(af:Array Bool),af.size=ops.size→(¬∀i,i<n→af.getD i ρ=τ)→∃i,i<n∧i∈Jaq md ops af:=by
  intro af hs kZ
  by_cases hex:∃i,i<n∧i∈Jaq md ops af
  ·exact hex
  ·exfalso;refine kZ fun i=>?_
   induction i using Nat.strongRecOn with
   |_ i ih=>
    intro hi
    by_cases hl:af.getD i ρ=τ
    ·exact hl
    ·exfalso;refine hex ⟨i,hi,?_⟩;rw[mem_ready];have sY:i<ops.size:=by omega
     have zf:i<af.size:=by omega
     have h1:af.getD i τ=ρ:=by
      simp[JaD,zf] at hl ⊢;exact hl
     refine⟨h1,ops[i],by simp[sY],fun e he hb=>?_⟩
     have h2:=Φ.1 (show(Ω ops.size).all _=τ from hr) i (by simp[sY]);simp[sY] at h2
     have h3:=h2 e.on (by
      unfold dB;exact Α.2 ⟨e,JaC.2 ⟨by simpa using he,hb⟩,rfl⟩)
     exact ih e.on h3 (by omega)
 intro fuel
 induction fuel with
 |zero=>
  intro af x w hs hk hc hg hx
  have hl:∀i,i<ops.size→af.getD i ρ=τ:=fun i hi=>by
   have h1:(Ω ops.size).countP (fun j=>af.getD j ρ)=(Ω ops.size).length:=by simpa using hc
   exact List.countP_eq_length.1 h1 i (by simp[hi])
  have kZ:n=ops.size:=by
   rcases JaM n ops.size with h|h
   ·have h1:=hl n h;rw[hk n (Δ _) h] at h1;cases h1
   ·omega
  have he:=jw x w hg fun i hi=>hx i hi (hl i (by omega))
  rw[show ops.size - n=0 by omega] at he
  have e1:af=jl n ops.size:=by
   apply Array.ext
   ·rw[fW,hs]
   ·intro j h1 h2;have h3:=hl j (by omega);have h4:=eV n ops.size j (by omega);rw[decide_eq_true (by omega)] at h4;simp[JaD,h1] at h3;simp[JaD,h2] at h4;rw[h3,h4]
  rw[e1];exact fH _ _ _ _ he
 |succ fuel ih=>
  intro af x w hs hk hc hg hx
  by_cases aX:∀i,i<n→af.getD i ρ=τ
  ·have he:=jw x w hg fun i hi=>hx i hi (aX i hi)
   have e1:af=jl n ops.size:=by
    apply Array.ext
    ·rw[fW,hs]
    ·intro j h1 h2;have h4:=eV n ops.size j (by omega);simp[JaD,h2] at h4
     by_cases hj:j<n
     ·have h3:=aX j hj;simp[JaD,h1] at h3;rw[h3,h4,decide_eq_true hj]
     ·have h3:=hk j (by omega) (by omega);simp[JaD,h1] at h3;rw[h3,h4,decide_eq_false hj]
   have e2:(Ω ops.size).countP (fun j=>af.getD j ρ)=n:=by
    rw[e1]
    have:(Ω ops.size).countP (fun j=>(jl n ops.size).getD j ρ)=(Ω ops.size).countP (fun j=>decide (j<n)):=by
     apply List.countP_congr;intro j hj;rw[eV n ops.size j (by simpa using hj)]
    rw[this,mF];omega
   rw[show ops.size - n=fuel+1 by omega] at he;rw[e1];exact fH _ _ _ _ he
  ·by_cases rU:∀i,i<n→i≠e→af.getD i ρ=τ
   ·have hef:af.getD e ρ=ρ:=by
     cases hb:af.getD e ρ with
     |false=>rfl
     |true=>
      refine absurd (fun i hi=>?_) aX
      by_cases Ic:i=e
      ·rw[Ic];exact hb
      ·exact rU i hi Ic
    have e1:af.setIfInBounds e τ=jl n ops.size:=by
     apply Array.ext
     ·rw[fW,Array.size_setIfInBounds,hs]
     ·intro j h1 h2;have qq:j<af.size:=by simpa using h1
      have h4:=eV n ops.size j (by rw[←hs];exact qq);simp[JaD,h2] at h4;rw[Array.getElem_setIfInBounds (by simpa using h1)]
      by_cases D0:e=j
      ·subst D0;rw[if_pos rfl,h4,decide_eq_true hen]
      ·rw[if_neg D0]
       by_cases hj:j<n
       ·have h3:=rU j hj (Ne.symm D0);simp[JaD,qq] at h3;rw[h3,h4,decide_eq_true hj]
       ·have h3:=hk j (by omega) (by omega);simp[JaD,qq] at h3;rw[h3,h4,decide_eq_false hj]
    have e3:af=(jl n ops.size).setIfInBounds e ρ:=by
     rw[←e1,Array.setIfInBounds_setIfInBounds];apply Array.ext
     ·simp
     ·intro j h1 h2;rw[Array.getElem_setIfInBounds (by simpa using h2)]
      by_cases D0:e=j
      ·subst D0;rw[if_pos rfl];simp[JaD,h1] at hef;exact hef
      ·rw[if_neg D0]
    have e2:(Ω ops.size).countP (fun j=>af.getD j ρ)+1=n:=by
     have h1:(Ω ops.size).countP (fun j=>(jl n ops.size).getD j ρ)=(Ω ops.size).countP (fun j=>decide (j<n)):=by
      apply List.countP_congr;intro j hj;rw[eV n ops.size j (by simpa using hj)]
     have Fb:e<af.size:=by omega
     have mX:=fG (fun j=>af.getD j ρ) (fun j=>(af.setIfInBounds e τ).getD j ρ) e hef (by simp[JaD,Fb]) (fun j hj=>Jbq ρ (Ne.symm hj)) ops.size;rw[e1,h1,mF,if_pos (by omega)] at mX;omega
    obtain⟨v,hy,hv⟩:=DI x w hg fun i hi Ic=>hx i hi (rU i hi Ic)
    have tq:(aE ops)[e]? =ζ oe.dst:=by
     unfold aE;rw[Ψ,Array.getElem?_toList,Ke];rfl
    have kf:(aj x (aE ops) 0 a0).put oe.dst v=aj (kQ x e v) (aE ops) 0 a0:=
     iy x e v (aE ops) 0 a0 oe.dst (Jas _) (by simpa using tq) (fun j e2 hj bj t ht he=>by
      rw[Nat.sub_zero] at bj;rw[ht] at tq;rw[he] at hj;exact bj (fc hd hj tq))
    have he:=jw (kQ x e v) w hg fun i hi=>by
     by_cases Ic:i=e
     ·subst Ic;simpa [kQ] using hv
     ·rw[show kQ x e v i=x i from if_neg Ic];exact hx i hi (rU i hi Ic)
    rw[show ops.size - n=fuel by omega,←kf,←e1] at he;refine fH _ _ _ _ (vZ e oe.dst Ke rfl qO ?_ ?_ hQ ⟨v,hy,he⟩)
    ·rw[e3];exact Iv
    ·rw[e3];exact GI
   obtain⟨i0,Bz,xq⟩:=ml af hs aX
   refine⟨fun h0=>(by rw[h0] at xq;cases xq),fun i hi=>?_⟩
   obtain⟨h1,o,ho,aD⟩:=mem_ready.1 hi;have sY:i<ops.size:=(Jaa.1 ho).1;have zf:i<af.size:=by omega
   have jm:i<n:=by
    rcases JaM i n with h|h
    ·exact h
    ·exfalso;refine rU fun j hj D0=>?_
     have h2:=Eo ht h ho j hj D0;unfold dB at h2;obtain⟨e,he,rfl⟩:=Α.1 h2;obtain⟨BS,BA⟩:=JaC.1 he;exact aD e (by simpa using BS) BA
   have tq:(aE ops)[i]? =ζ o.dst:=by
    unfold aE;rw[Ψ,Array.getElem?_toList,ho];rfl
   have kf:∀v,(aj x (aE ops) 0 a0).put o.dst v=aj (kQ x i v) (aE ops) 0 a0:=fun v=>
    iy x i v (aE ops) 0 a0 o.dst (Jas _) (by simpa using tq) (fun j e hj bj t ht he=>by
     rw[Nat.sub_zero] at bj;rw[ht] at tq;rw[he] at hj;exact bj (fc hd hj tq))
   have mR:∀v w',Ext w w'→Γ i v w'→wpAny P md ops Q fuel (af.setIfInBounds i τ) (aj (kQ x i v) (aE ops) 0 a0) w':=fun v w' hw hv=>by
    refine ih _ _ _ (by simpa using hs) (fun k h1 h2=>?_) ?_ (hG _ _ hg hw) fun j KV hj=>?_
    ·rw[Jbq ρ (by omega)];exact hk k h1 h2
    ·have mX:=fG (fun j=>af.getD j ρ) (fun j=>(af.setIfInBounds i τ).getD j ρ) i (by simp[JaD,zf] at h1 ⊢;exact h1) (by simp[JaD,zf]) (fun j hj=>Jbq ρ (Ne.symm hj)) ops.size;rw[mX,if_pos sY];omega
    ·by_cases e:j=i
     ·subst e;simpa [kQ] using hv
     ·rw[Jbq ρ (Ne.symm e)] at hj;rw[show kQ x i v j=x j from if_neg e];exact hΓ _ _ _ _ (hx j KV hj) hw
   have OY:=lp i jm o ho x w hg (fun j hj=>by
    have ya:j<i:=by
     have h2:=Φ.1 (show(Ω ops.size).all _=τ from hr) i (by simp[sY]);rw[ho] at h2;simpa using Φ.1 h2 j hj
    unfold dB at hj;obtain⟨e,he,rfl⟩:=Α.1 hj;obtain⟨BS,BA⟩:=JaC.1 he;exact hx _ (by omega) (aD e (by simpa using BS) BA))
   unfold wpOp;simp only[ho];rcases OY with⟨hw,wQ⟩|⟨hw,hu⟩
   ·simp only[hw,if_true];exact .inl (wQ.wp fun v w' jq hv=>by rw[kf];exact mR v w' jq hv)
   ·simp only[hw,Bool.false_eq_true,if_false];rw[kf];exact mR undef w (Ext.refl w) hu
theorem cJ (n e:Nat) (S:Nat→Prop) {id:Nat} {a0:Act} {w:ο} {oe:Oper} (Γ:Nat→ψ→ο→Prop) (G:ο→Prop) (hm:P.follows .mixedOrders=τ)
 (hd:eL ops=τ) (hr:lC .any ops=τ) (hn:decide (n≤ops.size)=τ) (ht:NR .any ops n e=τ) (hen:decide (e<n)=τ) (Ke:ops[e]? =ζ oe) (qO:JbJ ops=τ)
 (Iv:JbP .any ops ((jl n ops.size).setIfInBounds e ρ) e=τ) (GI:(Jaq .any ops ((jl n ops.size).setIfInBounds e ρ)).contains e=τ)
 (hQ:∀v c a w,Q (.panic c) (a.put oe.dst v) w→Q (.panic c) a w)
 (hΓ:∀i v w w',Γ i v w→Ext w w'→Γ i v w') (hG:∀w w',G w→Ext w w'→G w') (hg:G w.drew)
 (lp:∀i,i<n→nU P .any ops Γ G a0 i)
 (DI:∀x w,G w→(∀i,i<n→i≠e→Γ i (x i) w)→∃v,cM P ops S oe v (aj x (aE ops) 0 a0) w∧Γ e v w)
 (jw:∀x w,G w→(∀i,i<n→Γ i (x i) w)→nc P .any ops S Q (ops.size - n) (jl n ops.size) (aj x (aE ops) 0 a0) w):(Code.region id ops τ).wp P Q a0 w:=by
 obtain⟨x,hx⟩:=jN (aE ops) 0 a0
 have hz:∀k,(Jbe ops.size ρ).getD k ρ=ρ:=fun k=>by
  by_cases h:k<ops.size<;>simp[JaD,h]
 have h:=Jo (P:=P) (Q:=Q) (md:=.any) n e S Γ G a0 hΓ hG hd hr (of_decide_eq_true hn) ht (of_decide_eq_true hen) Ke qO Iv GI hQ lp DI jw ops.size (Jbe ops.size ρ) x w.drew (by simp) (fun k _ _=>hz k) (by
  have:(Ω ops.size).countP (fun j=>(Jbe ops.size ρ).getD j ρ)=0:=by
   rw[List.countP_eq_zero];intro j hj;rw[hz j];simp
  omega) hg (fun i _ hi=>by rw[hz i] at hi;cases hi)
 rw[hx] at h;exact wp_region_any hm h
end
def BQ (vs:List (Option ψ)) (ai B:Nat) (T:Υ) (cs:List ψ) (i:Nat) (v:ψ) (W:ο):Prop:=
 if i=ai then ∃g,v=υ (ζ ⟨g,0,ε⟩)∧B≤g∧Whole W g T cs else match vs[i]? with
  |some (ζ u)=>v=u
  |_=>True
theorem sJ {vs:List (Option ψ)} {ai B:Nat} {T:Υ} {cs:List ψ} (i:Nat) (v:ψ) (W W':ο) (h:BQ vs ai B T cs i v W) (hx:Ext W W'):BQ vs ai B T cs i v W':=by
 unfold BQ at h ⊢;split at h
 ·rename_i e;rw[if_pos e];obtain⟨g,h1,h2,h3⟩:=h;exact⟨g,h1,h2,h3.bl hx⟩
 ·rename_i e;rw[if_neg e];exact h
section
attribute [local go_sem] Oper.semAt_some
def wfS (d:D):Prop:=su d∧0≤d.2.2∧d.2.2≤1
abbrev D2:={d:D // wfS d}
def dw (d:D):D:=(d.1,d.2.1,1 - d.2.2)
def BI (g:D→Option D) (x:D):Nat→D→List D
 |0,_=>[]
 |k+1,y=>y::(match g (dw y) with|none=>[]|some z=>if z=x then[] else BI g x k z)
def gJ (g:D→Option D) (N:Nat) (x:D):List D:=if (g x).isSome then BI g x N x else[]
theorem wfS.oth {d:D} (h:wfS d):wfS (dw d):=by
 obtain⟨⟨h1,h2,h3⟩,h4,h5⟩:=h
 refine⟨⟨h1,h2,?_⟩,by show 0≤1 - d.2.2;omega,by show 1 - d.2.2≤1;omega⟩
 show(Lit.int .i64 (1 - d.2.2)).wf=τ
 have e0:(1:Int) - d.2.2=0∨(1:Int) - d.2.2=1:=by omega
 rcases e0 with e0|e0<;>rw[e0]<;>decide
theorem Db {g:D→Option D} {x z:D} (h:g x=ζ z):ux g x=ζ (dV z):=by unfold ux;rw[h];rfl
theorem BY {g:D→Option D} {x:D} (h:g x=ε):ux g x=ε:=by unfold ux;rw[h];rfl
theorem nP (w:ο):(zeroValue 32).run η w=.ok (dV (0,0,0)) w:=by
 obtain⟨i,hi,hz⟩:∃i,η.info? 32=ζ i∧i.zero=ζ (dV (0,0,0)):=by
  have h:(η.info? 32).map (·.zero)=ζ (ζ (dV (0,0,0))):=by kernel_rfl
  cases h2:η.info? 32 with
  |none=>rw[h2] at h;cases h
  |some i=>rw[h2] at h;exact⟨i,rfl,by simpa using h⟩
 simp[zeroValue,typeInfo,hi,hz]
theorem UL {w w':ο} (B:Nat) (h:σ w.heap.size w w'):w.grownBy w' (ζ B):=⟨h.os,h.tape,h.output,h.size,fun k hk _=>h.block k hk⟩
theorem Yf.bel {B:Nat} {J_:ο→Prop} (h:Yf B J_) {w w':ο} (hj:J_ w) (hb:σ w.heap.size w w'):J_ w':=h w w' hj (UL B hb)
theorem Yf.row {B:Nat} {J_:ο→Prop} (h:Yf B J_) {w:ο} (hj:J_ w) (cs:Array ψ):J_ (w.setRow B cs):=
 h w _ hj (by have hk:=bN (S:=fun i=>i=B) (w:=w) rfl cs;exact⟨hk.os,hk.tape,hk.output,hk.size,fun k h1 h2=>hk.block k h1 (fun e=>h2 (by rw[e]))⟩)
theorem qA.whole {K:Nat→Prop} {W W':ο} (h:qA K W W') {g:Nat} {t:Υ} {cs:List ψ} (hw:Whole W g t cs) (hk:K g):Whole W' g t cs:=
 hw.at_ (h.same g hw.lt hk)
theorem qA.mapD {K:Nat→Prop} {W W':ο} (h:qA K W W') {b n:Nat} {f:D→Option ψ} {S:List D} (hw:cA W b n f S) (hk:K b):cA W' b n f S:=
 hw.at_ (h.same b hw.lt hk)
theorem Jv (b:Nat) (x1 x2 x3:Int) (w:ο):Ζ η 183 #[.map (ζ b),φ #[J x1,J x2,J x3]] w fun e w'=>e=.returned (.func (.func 187) #[] #[υ (ζ ⟨w.heap.size+1,0,ε⟩),υ (ζ ⟨w.heap.size,0,ε⟩)])∧w'=(w.alloc (δ #[.map (ζ b)] 184)).alloc (δ #[J x1,J x2,J x3] 32):=by
 go_enter Tryz.func183,Tryz.ntmps183;go_wp2;go_ret;exact⟨rfl,rfl⟩
theorem vJ (x:D) (h:wfS x) (w:ο):Ζ η 127 #[dV x] w fun e w'=>e=.returned (dV (dw x))∧σ w.heap.size w w':=by
 obtain⟨s,n,c⟩:=x;have h1:0≤c:=h.2.1;have h2:c≤1:=h.2.2;show Ζ η 127 #[φ #[J s,J n,J c]] w _;go_enter Tryz.func127,Tryz.ntmps127;go_wp2;exact JaN (v:=φ #[J s,J n,J (1 - c)]) (by simp[results,Tryz.results127,go_sem]) rfl ⟨rfl,cr _ _ _⟩
theorem Jr (bx bn bm q:Nat) (g:D→Option D) (Sk:List D) (x:D) (hx:su x) (hxs:(g x).isSome=τ→wfS x) (hg:∀d e,g d=ζ e→wfS e) (K:Nat→Prop) (W:ο) (hK:K bx∧K bn∧K bm∧K W.heap.size)
 (h1:Whole W bx 32 [J x.1,J x.2.1,J x.2.2]) (h2:Whole W bn 184 [.map (ζ bm)]) (h3:cA W bm q (ux g) Sk) (hN:Sk.length≤1000000000000):
 ItS η 187 #[υ (ζ ⟨bx,0,ε⟩),υ (ζ ⟨bn,0,ε⟩)] (fun y:D2=>#[dV y.1]) K (fun ys=>ys.map (·.1)=gJ g Sk.length x) (fun ys=>ys.map (·.1)<+:gJ g Sk.length x) Sk.length W:=by
 intro l J_ Jx hJ hJx hY h0;refine callsIn_wide.2 ?_;show Ζ η 187 #[.func (.yield l) #[] #[],υ (ζ ⟨bx,0,ε⟩),υ (ζ ⟨bn,0,ε⟩)] W _;obtain⟨x1,x2,x3⟩:=x;replace h1:Whole W bx 32 [J x1,J x2,J x3]:=h1;have aed:=hxs;obtain⟨N,gN⟩:=aB Sk.length;have HSk:=qh gN;rw[gN] at hN hY ⊢;clear gN;have HX:=qh h1;have HN:=qh h2;have HM:=qh h3;have HJ:=qh h0;have HK:=qh hK;have HY:=qh hY;have Hg:=qh hg;have Hxs:=qh hxs;have KD:=qh hJ;have af4:=qh hJx;have Hx:=qh hx;have c0:=h1.cell (i:=0) rfl;have c1:=h1.cell (i:=1) rfl;have c2:=h1.cell (i:=2) rfl;clear h1 h2 h3 h0 hK hY hg hxs hJ hJx hx aed;go_enter Tryz.func187,Tryz.ntmps187;go_upto_region 1 with fail
 have aQ:=qh (HX.out.al (δ #[J x1,J x2,J x3] 32));have KT:=qh (HN.out.al (δ #[J x1,J x2,J x3] 32));have HM0:=qh (HM.out.al (δ #[J x1,J x2,J x3] 32));have HJ0:=qh ((KD.out []).bel HJ.out (az W (δ #[J x1,J x2,J x3] 32)));have fk:=qh (Whole.new_ W 32 [J x1,J x2,J x3]);have hlx:=HX.out.lt;have SL:=HN.out.lt;have GV:=HM.out.lt;obtain⟨b,gb⟩:=aB W.heap.size;obtain⟨W0,bO⟩:=aB (W.alloc (δ #[J x1,J x2,J x3] 32));rw[gb] at KD af4 HK HY fk hlx SL GV;rw[bO] at aQ KT HM0 HJ0 fk;rw[bO,gb];clear c0 c1 c2 bO gb HX HN HM HJ;have c0:=aQ.out.cell (i:=0) rfl;have c1:=aQ.out.cell (i:=1) rfl;have c2:=aQ.out.cell (i:=2) rfl;have c3:=KT.out.cell (i:=0) rfl
 by_cases O5:(g (x1,x2,x3)).isSome=τ
 ·obtain⟨z,hz⟩:=Option.isSome_iff_exists.1 O5;have Hz:=qh (Db hz);have Hfl:Hid (gJ g N (x1,x2,x3)=BI g (x1,x2,x3) N (x1,x2,x3)):=qh (by unfold gJ;rw[if_pos O5]);have Hs:=qh (Hxs.out O5);clear O5 hz;obtain⟨z1,z2,z3⟩:=z;go_upto_region 2 with (at_lookup;refine jE rfl _ _ rfl rfl HM0.out.mapF Tryz.underlying184 (nP _) (x:=(x1,x2,x3)) Hx.out rfl ?_;rw[Hz.out];simp only[Option.getD_some,Option.getD_none,Option.isSome_some,Option.isSome_none,dV])
  have aL:=qh (aQ.out.al (δ #[J z1,J z2,J z3] 32));have Ed:=qh (KT.out.al (δ #[J z1,J z2,J z3] 32));have KM:=qh (HM0.out.al (δ #[J z1,J z2,J z3] 32));have mZ:=qh (fk.out.al (δ #[J z1,J z2,J z3] 32));have HJ1:=qh ((KD.out []).bel HJ0.out (az W0 (δ #[J z1,J z2,J z3] 32)));clear Hz aQ KT HM0 HJ0 fk c0 c1 c2 c3;obtain⟨W1,aV⟩:=aB (W0.alloc (δ #[J z1,J z2,J z3] 32));rw[aV] at aL Ed KM HJ1 mZ ⊢;clear aV;have c3:=Ed.out.cell (i:=0) rfl;go_upto_region 3 with fail
  refine wp_region_lit ?_;refine a7 (v:=?_) (ζ 17) rfl (by rfl) ?_ ?_;rotate_left
  ·go_simp;(try with_reducible rfl)
  simp only[ξ,aw,ar,aq];refine QG rfl _ rfl Tryz.underlying184 rfl KM.out ?_;rw[HSk.out];simp only[ξ,aw,ar,aq];go_wp2;clear c3;go_loopw [5,19] (fun so si wr=>∃(j:Nat) (pre:List D2) (y:D),j≤N∧si=J j∧so=Β τ∧Hid (pre.length=j∧wfS y∧gJ g N (x1,x2,x3)=pre.map (·.1)++BI g (x1,x2,x3) (N - j) y)∧Hid (J_ pre wr)∧Hid (Whole wr bx 32 [J x1,J x2,J x3])∧Hid (Whole wr bn 184 [.map (ζ bm)])∧Hid (cA wr bm q (ux g) Sk)∧Hid (Whole wr b 32 [J y.1,J y.2.1,J y.2.2])) (fun _ si _=>N - (intOf si).toNat)
  case atStart=>exact⟨0,[],(x1,x2,x3),by omega,rfl,rfl,qh ⟨rfl,Hs.out,Hfl.out⟩,HJ1,aL,Ed,KM,mZ⟩
  case round=>
   clear HJ1 aL Ed KM mZ Hfl;obtain⟨j,pre,y,hj,rfl,rfl,HF,HJ,HX,HN,HM,WI⟩:=hrel
   by_cases nT:j<N
   ·obtain⟨wo,cS⟩:=aB wr;rw[cS] at HJ HX HN HM WI ⊢;clear cS;obtain⟨y1,y2,y3⟩:=y;have O8:Hid (wfS (y1,y2,y3)):=qh HF.out.2.1;have c0:=WI.out.cell (i:=0) rfl;have c1:=WI.out.cell (i:=1) rfl;have c2:=WI.out.cell (i:=2) rfl;have HFt:Hid (gJ g N (x1,x2,x3)=pre.map (·.1)++BI g (x1,x2,x3) (N - (j+1)+1) (y1,y2,y3)):=qh (by rw[HF.out.2.2];congr 2;omega);have Hpl:Hid (pre.length=j):=qh HF.out.1;clear HF;go_upto_region 5 with fail
    obtain⟨fn,tmps,assign,body,hy,hR⟩:=HY.out pre ⟨(y1,y2,y3),O8.out⟩ wo HJ.out (by have:=Hpl.out;omega) WI.out.lt;have HR:=qh hR;clear hR;simp only[dV] at hy
    refine(wpIn_wide (n:=0)).1 ?_
    gi_wp2
    refine⟨rfl,HR.out.mono ?_⟩
    clear c0 c1 c2 hy HR HJ;rintro e W3 (⟨rfl,hJ3,Ec⟩|⟨rfl,ZR⟩)
    ·have Rp:=qh hJ3;have ZG:=qh Ec;clear hJ3 Ec
     gi_wp2
     have cF:=qh (ZG.out.whole HX.out HK.out.1);have KL:=qh (ZG.out.whole HN.out HK.out.2.1);have D5:=qh (ZG.out.mapD HM.out HK.out.2.2.1);have nK:=qh (ZG.out.whole WI.out HK.out.2.2.2);clear HX HN HM WI ZG
     by_cases ho:(g (dw (y1,y2,y3))).isSome=τ
     ·obtain⟨u,hu⟩:=Option.isSome_iff_exists.1 ho;have Hus:=qh (Hg.out _ _ hu);have Hto:Hid (BI g (x1,x2,x3) (N - (j+1)+1) (y1,y2,y3)=(y1,y2,y3)::(if u=(x1,x2,x3) then[] else BI g (x1,x2,x3) (N - (j+1)) u)):=qh (by rw[BI,hu])
      have Xv:∀w',cA w' bm q (ux g) Sk→(Instr.lookup 184 (.map (ζ bm)) (φ #[J y1,J y2,J (1 - y3)]) τ).run η w'=.ok (Ξ #[dV u,Β τ]) w':=fun w' h=>by
       have e:=h.mapF.look (x:=dw (y1,y2,y3)) Tryz.underlying184 (nP w') O8.out.oth.1;rw[Db hu] at e;exact e
      clear ho hu;obtain⟨u1,u2,u3⟩:=u;simp only[dV] at Xv;have YV:=qh Xv;clear Xv;go_upto_region 6 with fail
      have jB:Hid (∀W',Ext W3.drew W'→W'.cell? ⟨b,0,ε⟩=ζ (J y1)∧W'.cell? ⟨b,1,ε⟩=ζ (J y2)∧W'.cell? ⟨b,2,ε⟩=ζ (J y3)∧W'.cell? ⟨bn,0,ε⟩=ζ (.map (ζ bm))):=
       qh (fun W' h=>⟨(nK.out.dr.bl h).cell (i:=0) rfl,(nK.out.dr.bl h).cell (i:=1) rfl,(nK.out.dr.bl h).cell (i:=2) rfl,(KL.out.dr.bl h).cell (i:=0) rfl⟩)
      refine cJ 7 6 (fun i=>i=b) (BQ [ζ (.map (ζ bm)),ζ (φ #[J y1,J y2,J y3]),ζ (φ #[J y1,J y2,J (1 - y3)]),ζ (Ξ #[φ #[J u1,J u2,J u3],Β τ]),ζ (Ξ #[φ #[J u1,J u2,J u3],Β τ]),ζ (φ #[J u1,J u2,J u3]),ζ (Β τ)] 99 0 0 []) (Ext W3.drew) (by kernel_rfl) (by kernel_rfl) (by kernel_rfl) (by kernel_rfl) (by kernel_rfl) (by kernel_rfl) (by simp only[Jaj,Jag,Jah];exact rfl) (by kernel_rfl) (by kernel_rfl) (by kernel_rfl) ?_ (fun i v w1 w2 h hx=>sJ i v w1 w2 h hx) (fun _ _ h k=>h.trans k) (Ext.refl _) ?_ ?_ ?_
      ·exact fun _ _ _ _ h=>h
      ·intro i Ef;have dF:i=0∨i=1∨i=2∨i=3∨i=4∨i=5∨i=6:=by omega
       rcases dF with rfl|rfl|rfl|rfl|rfl|rfl|rfl
       ·refine aH ?_;intro x y hg aD;obtain⟨qE,iQ,jd,qi⟩:=jB.out _ hg;simp only[aE,ι,π,aj,ξ,aw,ar,aq];refine .inl ⟨by rfl,?_⟩;go_simp;exact⟨Ext.refl _,rfl⟩
       ·refine aH ?_;intro x y hg aD;obtain⟨qE,iQ,jd,qi⟩:=jB.out _ hg;simp only[aE,ι,π,aj,ξ,aw,ar,aq];refine .inl ⟨by rfl,?_⟩;go_simp;exact⟨Ext.refl _,rfl⟩
       ·refine aH ?_;intro x y hg aD;have d1:x 1=φ #[J y1,J y2,J y3]:=aD 1 (by decide);simp only[aE,ι,π,aj,ξ,aw,ar,aq];simp only[d1];refine .inl ⟨by rfl,cu (by go_simp;first|done|exact⟨rfl,rfl⟩|with_reducible rfl) ?_⟩
        refine(show Ζ η 127 #[φ #[J y1,J y2,J y3]] y (fun e bW=>e=.returned (φ #[J y1,J y2,J (1 - y3)])∧σ y.heap.size y bW) from vJ (y1,y2,y3) O8.out y).mono ?_
        rintro e w2 ⟨rfl,hb⟩;exact⟨_,rfl,hb,rfl⟩
       ·refine aH ?_;intro x y hg aD;have d0:x 0=.map (ζ bm):=aD 0 (by decide);have d2:x 2=φ #[J y1,J y2,J (1 - y3)]:=aD 2 (by decide);simp only[aE,ι,π,aj,ξ,aw,ar,aq];simp only[d0,d2];refine .inl ⟨by rfl,dZ (w':=y) (nj (b:=ζ bm) (by rfl) (by rfl) (by rfl) (YV.out y (D5.out.dr.bl hg))) (Ext.refl _) ?_⟩;exact rfl
       ·refine aH ?_;intro x y hg aD;have d3:x 3=Ξ #[φ #[J u1,J u2,J u3],Β τ]:=aD 3 (by decide);simp only[aE,ι,π,aj,ξ,aw,ar,aq];simp only[d3];refine .inl ⟨by rfl,?_⟩;go_simp;exact⟨Ext.refl _,rfl⟩
       ·refine aH ?_;intro x y hg aD;have d4:x 4=Ξ #[φ #[J u1,J u2,J u3],Β τ]:=aD 4 (by decide);simp only[aE,ι,π,aj,ξ,aw,ar,aq];simp only[d4];refine .inl ⟨by rfl,?_⟩;go_simp;exact⟨Ext.refl _,rfl⟩
       ·refine aH ?_;intro x y hg aD;have d4:x 4=Ξ #[φ #[J u1,J u2,J u3],Β τ]:=aD 4 (by decide);simp only[aE,ι,π,aj,ξ,aw,ar,aq];simp only[d4];refine .inl ⟨by rfl,?_⟩;go_simp;exact⟨Ext.refl _,rfl⟩
      ·intro x y hg aX;have d4:x 4=Ξ #[φ #[J u1,J u2,J u3],Β τ]:=aX 4 (by decide) (by decide);simp only[aE,ι,π,aj,ξ,aw,ar,aq];simp only[d4]
       refine⟨Β τ,?_,rfl⟩
       apply dD;rfl;intro w' aC;go_simp;(try with_reducible rfl)
      intro x y hg aX;have d0:x 0=.map (ζ bm):=aX 0 (by decide);have d1:x 1=φ #[J y1,J y2,J y3]:=aX 1 (by decide);have d2:x 2=φ #[J y1,J y2,J (1 - y3)]:=aX 2 (by decide);have d3:x 3=Ξ #[φ #[J u1,J u2,J u3],Β τ]:=aX 3 (by decide);have d4:x 4=Ξ #[φ #[J u1,J u2,J u3],Β τ]:=aX 4 (by decide);have d5:x 5=φ #[J u1,J u2,J u3]:=aX 5 (by decide);have d6:x 6=Β τ:=aX 6 (by decide);simp only[aE,ι,π,aj,ξ,aw,ar,aq];simp only[d0,d1,d2,d3,d4,d5,d6];clear aX d0 d1 d2 d3 d4 d5 d6;refine gI 7 ?_;intro w' aC;have K1:=qh ((nK.out.dr.bl hg).bl aC);have HJw:=qh ((KD.out _).bel ((KD.out _).bel Rp.out (ag (aN (Θ _ W3)) hg)) aC)
      refine⟨w'.setRow b #[J u1,J u2,J u3],aR 32 (.tmp 4) (.tmp 30) rfl b rfl [J u1,J u2,J u3] rfl 32 [J y1,J y2,J y3] K1.out (by kernel_rfl) rfl (by simp[Τ]),bN (S:=fun i=>i=b) rfl _,?_⟩
      have Np:Hid (Whole (w'.setRow b #[J u1,J u2,J u3]) b 32 [J u1,J u2,J u3]):=qh (Whole.row K1.out [J u1,J u2,J u3]);have zt:Hid (Whole (w'.setRow b #[J u1,J u2,J u3]) bx 32 [J x1,J x2,J x3]):=qh (((cF.out.dr.bl hg).bl aC).row_far (by omega) _);have Et:Hid (Whole (w'.setRow b #[J u1,J u2,J u3]) bn 184 [.map (ζ bm)]):=qh (((KL.out.dr.bl hg).bl aC).row_far (by omega) _);have O2:Hid (cA (w'.setRow b #[J u1,J u2,J u3]) bm q (ux g) Sk):=qh (((D5.out.dr.bl hg).bl aC).kept (S':=fun i=>i=b) (bN (S:=fun i=>i=b) rfl _) (by omega));have VG:=qh ((KD.out _).row HJw.out #[J u1,J u2,J u3]);obtain⟨V1,fD⟩:=aB (w'.setRow b #[J u1,J u2,J u3]);rw[fD] at Np zt Et O2 VG ⊢;clear aC hg fD K1 HJw cF KL D5 nK Rp YV jB;refine aa 8 ?_;refine aF (by kernel_rfl) ?_ _;intro W8 cg;have ue:=qh (zt.out.bl cg);have HN8:=qh (Et.out.bl cg);have yu:=qh (O2.out.bl cg);have D8:=qh (Np.out.bl cg);have LP:=qh ((KD.out _).bel VG.out cg);clear cg zt Et O2 Np VG;have c0:=ue.out.cell (i:=0) rfl;have c1:=ue.out.cell (i:=1) rfl;have c2:=ue.out.cell (i:=2) rfl;have e0:=D8.out.cell (i:=0) rfl;have e1:=D8.out.cell (i:=1) rfl;have e2:=D8.out.cell (i:=2) rfl
      by_cases Xl:(u1,u2,u3)=(x1,x2,x3)
      ·have hq:∀W,(binOp .eql 32 (φ #[J u1,J u2,J u3]) (φ #[J x1,J x2,J x3])).run η W=.ok (Β τ) W:=fun W=>by
        have e:=iI (u1,u2,u3) (x1,x2,x3) W;rw[decide_eq_true Xl] at e;exact e
       have AT:Hid (gJ g N (x1,x2,x3)=(pre++[(⟨(y1,y2,y3),O8.out⟩:D2)]).map (·.1)):=qh (by rw[HFt.out,Hto.out,if_pos Xl];simp);go_wp2;refine JaN (results_none rfl _ _ _) rfl ?_;exact⟨⟨_,rfl⟩,.inl ⟨_,AT.out.symm,LP.out⟩⟩
      ·have hq:∀W,(binOp .eql 32 (φ #[J u1,J u2,J u3]) (φ #[J x1,J x2,J x3])).run η W=.ok (Β ρ) W:=fun W=>by
        have e:=iI (u1,u2,u3) (x1,x2,x3) W;rw[decide_eq_false Xl] at e;exact e
       have AT:Hid ((pre++[(⟨(y1,y2,y3),O8.out⟩:D2)]).length=j+1∧wfS (u1,u2,u3)∧gJ g N (x1,x2,x3)=(pre++[(⟨(y1,y2,y3),O8.out⟩:D2)]).map (·.1)++BI g (x1,x2,x3) (N - (j+1)) (u1,u2,u3)):=qh ⟨by simp[Hpl.out],Hus.out,by rw[HFt.out,Hto.out,if_neg Xl];simp⟩;clear Hto HFt Hus;go_wp2;go_roundw
       case rel=>exact⟨j+1,_,(u1,u2,u3),by omega,by go_num,rfl,AT,LP,ue,HN8,yu,D8⟩
       case measure=>simp[intOf]<;>omega
     ·have hu:g (dw (y1,y2,y3))=ε:=by simpa using ho
      have Xv:∀w',cA w' bm q (ux g) Sk→(Instr.lookup 184 (.map (ζ bm)) (φ #[J y1,J y2,J (1 - y3)]) τ).run η w'=.ok (Ξ #[φ #[J 0,J 0,J 0],Β ρ]) w':=fun w' h=>by
       have e:=h.mapF.look (x:=dw (y1,y2,y3)) Tryz.underlying184 (nP w') O8.out.oth.1;rw[BY hu] at e;exact e
      have AT:Hid (gJ g N (x1,x2,x3)=(pre++[(⟨(y1,y2,y3),O8.out⟩:D2)]).map (·.1)):=qh (by rw[HFt.out,BI,hu];simp);have YV:=qh Xv;clear Xv ho hu;go_upto_region 6 with fail
      have jB:Hid (∀W',Ext W3.drew W'→W'.cell? ⟨b,0,ε⟩=ζ (J y1)∧W'.cell? ⟨b,1,ε⟩=ζ (J y2)∧W'.cell? ⟨b,2,ε⟩=ζ (J y3)∧W'.cell? ⟨bn,0,ε⟩=ζ (.map (ζ bm))):=
       qh (fun W' h=>⟨(nK.out.dr.bl h).cell (i:=0) rfl,(nK.out.dr.bl h).cell (i:=1) rfl,(nK.out.dr.bl h).cell (i:=2) rfl,(KL.out.dr.bl h).cell (i:=0) rfl⟩)
      refine cJ 7 6 (fun i=>i=b) (BQ [ζ (.map (ζ bm)),ζ (φ #[J y1,J y2,J y3]),ζ (φ #[J y1,J y2,J (1 - y3)]),ζ (Ξ #[φ #[J 0,J 0,J 0],Β ρ]),ζ (Ξ #[φ #[J 0,J 0,J 0],Β ρ]),ζ (φ #[J 0,J 0,J 0]),ζ (Β ρ)] 99 0 0 []) (Ext W3.drew) (by kernel_rfl) (by kernel_rfl) (by kernel_rfl) (by kernel_rfl) (by kernel_rfl) (by kernel_rfl) (by simp only[Jaj,Jag,Jah];exact rfl) (by kernel_rfl) (by kernel_rfl) (by kernel_rfl) ?_ (fun i v w1 w2 h hx=>sJ i v w1 w2 h hx) (fun _ _ h k=>h.trans k) (Ext.refl _) ?_ ?_ ?_
      ·exact fun _ _ _ _ h=>h
      ·intro i Ef;have dF:i=0∨i=1∨i=2∨i=3∨i=4∨i=5∨i=6:=by omega
       rcases dF with rfl|rfl|rfl|rfl|rfl|rfl|rfl
       ·refine aH ?_;intro x y hg aD;obtain⟨qE,iQ,jd,qi⟩:=jB.out _ hg;simp only[aE,ι,π,aj,ξ,aw,ar,aq];refine .inl ⟨by rfl,?_⟩;go_simp;exact⟨Ext.refl _,rfl⟩
       ·refine aH ?_;intro x y hg aD;obtain⟨qE,iQ,jd,qi⟩:=jB.out _ hg;simp only[aE,ι,π,aj,ξ,aw,ar,aq];refine .inl ⟨by rfl,?_⟩;go_simp;exact⟨Ext.refl _,rfl⟩
       ·refine aH ?_;intro x y hg aD;have d1:x 1=φ #[J y1,J y2,J y3]:=aD 1 (by decide);simp only[aE,ι,π,aj,ξ,aw,ar,aq];simp only[d1];refine .inl ⟨by rfl,cu (by go_simp;first|done|exact⟨rfl,rfl⟩|with_reducible rfl) ?_⟩
        refine(show Ζ η 127 #[φ #[J y1,J y2,J y3]] y (fun e bW=>e=.returned (φ #[J y1,J y2,J (1 - y3)])∧σ y.heap.size y bW) from vJ (y1,y2,y3) O8.out y).mono ?_
        rintro e w2 ⟨rfl,hb⟩;exact⟨_,rfl,hb,rfl⟩
       ·refine aH ?_;intro x y hg aD;have d0:x 0=.map (ζ bm):=aD 0 (by decide);have d2:x 2=φ #[J y1,J y2,J (1 - y3)]:=aD 2 (by decide);simp only[aE,ι,π,aj,ξ,aw,ar,aq];simp only[d0,d2];refine .inl ⟨by rfl,dZ (w':=y) (nj (b:=ζ bm) (by rfl) (by rfl) (by rfl) (YV.out y (D5.out.dr.bl hg))) (Ext.refl _) ?_⟩;exact rfl
       ·refine aH ?_;intro x y hg aD;have d3:x 3=Ξ #[φ #[J 0,J 0,J 0],Β ρ]:=aD 3 (by decide);simp only[aE,ι,π,aj,ξ,aw,ar,aq];simp only[d3];refine .inl ⟨by rfl,?_⟩;go_simp;exact⟨Ext.refl _,rfl⟩
       ·refine aH ?_;intro x y hg aD;have d4:x 4=Ξ #[φ #[J 0,J 0,J 0],Β ρ]:=aD 4 (by decide);simp only[aE,ι,π,aj,ξ,aw,ar,aq];simp only[d4];refine .inl ⟨by rfl,?_⟩;go_simp;exact⟨Ext.refl _,rfl⟩
       ·refine aH ?_;intro x y hg aD;have d4:x 4=Ξ #[φ #[J 0,J 0,J 0],Β ρ]:=aD 4 (by decide);simp only[aE,ι,π,aj,ξ,aw,ar,aq];simp only[d4];refine .inl ⟨by rfl,?_⟩;go_simp;exact⟨Ext.refl _,rfl⟩
      ·intro x y hg aX;have d4:x 4=Ξ #[φ #[J 0,J 0,J 0],Β ρ]:=aX 4 (by decide) (by decide);simp only[aE,ι,π,aj,ξ,aw,ar,aq];simp only[d4]
       refine⟨Β ρ,?_,rfl⟩
       apply dD;rfl;intro w' aC;go_simp;(try with_reducible rfl)
      intro x y hg aX;have d0:x 0=.map (ζ bm):=aX 0 (by decide);have d1:x 1=φ #[J y1,J y2,J y3]:=aX 1 (by decide);have d2:x 2=φ #[J y1,J y2,J (1 - y3)]:=aX 2 (by decide);have d3:x 3=Ξ #[φ #[J 0,J 0,J 0],Β ρ]:=aX 3 (by decide);have d4:x 4=Ξ #[φ #[J 0,J 0,J 0],Β ρ]:=aX 4 (by decide);have d5:x 5=φ #[J 0,J 0,J 0]:=aX 5 (by decide);have d6:x 6=Β ρ:=aX 6 (by decide);simp only[aE,ι,π,aj,ξ,aw,ar,aq];simp only[d0,d1,d2,d3,d4,d5,d6];clear aX d0 d1 d2 d3 d4 d5 d6;refine gI 7 ?_;intro w' aC;have K1:=qh ((nK.out.dr.bl hg).bl aC);have HJw:=qh ((KD.out _).bel ((KD.out _).bel Rp.out (ag (aN (Θ _ W3)) hg)) aC)
      refine⟨w'.setRow b #[J 0,J 0,J 0],aR 32 (.tmp 4) (.tmp 30) rfl b rfl [J 0,J 0,J 0] rfl 32 [J y1,J y2,J y3] K1.out (by kernel_rfl) rfl (by simp[Τ]),bN (S:=fun i=>i=b) rfl _,?_⟩
      have Np:Hid (Whole (w'.setRow b #[J 0,J 0,J 0]) b 32 [J 0,J 0,J 0]):=qh (Whole.row K1.out [J 0,J 0,J 0]);have zt:Hid (Whole (w'.setRow b #[J 0,J 0,J 0]) bx 32 [J x1,J x2,J x3]):=qh (((cF.out.dr.bl hg).bl aC).row_far (by omega) _);have Et:Hid (Whole (w'.setRow b #[J 0,J 0,J 0]) bn 184 [.map (ζ bm)]):=qh (((KL.out.dr.bl hg).bl aC).row_far (by omega) _);have O2:Hid (cA (w'.setRow b #[J 0,J 0,J 0]) bm q (ux g) Sk):=qh (((D5.out.dr.bl hg).bl aC).kept (S':=fun i=>i=b) (bN (S:=fun i=>i=b) rfl _) (by omega));have VG:=qh ((KD.out _).row HJw.out #[J 0,J 0,J 0]);obtain⟨V1,fD⟩:=aB (w'.setRow b #[J 0,J 0,J 0]);rw[fD] at Np zt Et O2 VG ⊢;clear aC hg fD K1 HJw cF KL D5 nK Rp YV jB;refine aa 8 ?_;refine aF (by kernel_rfl) ?_ _;intro W8 cg;have ue:=qh (zt.out.bl cg);have HN8:=qh (Et.out.bl cg);have yu:=qh (O2.out.bl cg);have D8:=qh (Np.out.bl cg);have LP:=qh ((KD.out _).bel VG.out cg);clear cg zt Et O2 Np VG;have c0:=ue.out.cell (i:=0) rfl;have c1:=ue.out.cell (i:=1) rfl;have c2:=ue.out.cell (i:=2) rfl;have e0:=D8.out.cell (i:=0) rfl;have e1:=D8.out.cell (i:=1) rfl;have e2:=D8.out.cell (i:=2) rfl;go_wp2;refine JaN (results_none rfl _ _ _) rfl ?_;exact⟨⟨_,rfl⟩,.inl ⟨_,AT.out.symm,LP.out⟩⟩
    ·have Rp:=qh ZR;clear ZR
     gi_wp2
     have AT:Hid ((pre++[(⟨(y1,y2,y3),O8.out⟩:D2)]).map (·.1)<+:gJ g N (x1,x2,x3)):=qh ⟨(match g (dw (y1,y2,y3)) with|none=>[]|some z=>if z=(x1,x2,x3) then[] else BI g (x1,x2,x3) (N - (j+1)) z),by rw[HFt.out,BI];simp⟩;go_wp2;refine JaN (results_none rfl _ _ _) rfl ?_;exact⟨⟨_,rfl⟩,.inr ⟨_,AT.out,Rp.out⟩⟩
   ·obtain rfl:N=j:=by omega
    go_wp2;go_end0;exact⟨⟨_,rfl⟩,.inl ⟨pre,by have h:=HF.out.2.2;rw[Nat.sub_self] at h;rw[h];simp[BI],HJ.out⟩⟩
 ·have Tt:g (x1,x2,x3)=ε:=by simpa using O5
  have Hz:=qh (BY Tt);have Hfl:Hid (gJ g N (x1,x2,x3)=[]):=qh (by unfold gJ;rw[if_neg O5]);clear O5 Tt;go_upto_region 2 with (at_lookup;refine jE rfl _ _ rfl rfl HM0.out.mapF Tryz.underlying184 (nP _) (x:=(x1,x2,x3)) Hx.out rfl ?_;rw[Hz.out];simp only[Option.getD_some,Option.getD_none,Option.isSome_some,Option.isSome_none,dV])
  go_wp2;refine JaN (results_none rfl _ _ _) rfl ?_;exact⟨⟨_,rfl⟩,.inl ⟨[],by rw[Hfl.out];rfl,(KD.out []).bel HJ0.out (az _ _)⟩⟩
end
section
attribute [local go_sem] Oper.semAt_some
theorem Gl (g:D→Option D) (x:D):∀k y,(BI g x k y).length≤k
 |0,_=>Δ _
 |k+1,y=>by
  rw[BI,JaH];split
  ·simp
  ·split
   ·simp
   ·have:=Gl g x k ‹D›;omega
theorem Ji (g:D→Option D) (N:Nat) (x:D):(gJ g N x).length≤N:=by
 unfold gJ;split
 ·exact Gl _ _ _ _
 ·simp
theorem mi {w:ο} {lo lo':Nat} {e:Υ} {k n:Nat} {v:ψ} {xs:List ψ} (h:w.ownsRow lo e k v n xs) (hb:lo'≤lo):w.ownsRow lo' e k v n xs:=by
 refine⟨h.1,?_⟩
 rcases h.2 with q|⟨g,cap,cur,q1,q2,q3⟩
 ·exact .inl q
 ·exact .inr ⟨g,cap,cur,q1,by omega,q3⟩
end
def yt (g:D→Option D) (S:List D):Prop:=S.Nodup∧(∀d∈S,su d)∧∀x,su x→(x∈S↔(g x).isSome=τ)
theorem cA.keysD {w:ο} {b n:Nat} {g:D→Option D} {S:List D} (h:cA w b n (ux g) S):yt g S:=
 ⟨h.nd,h.wf,fun x hx=>by rw[h.keys hx];unfold ux;simp⟩
theorem BZ {P:D→Prop} (R:List D) (hR:∀d∈R,P d):∀k (f:D→Option D),k≤R.length→(∀d e,f d=ζ e→P e)→∀d e,xI R k f d=ζ e→P e
 |0,f,_,hf=>hf
 |k+1,f,hk,hf=>fun d e he=>by
  unfold xI at he;split at he
  ·obtain rfl:=Μ he;have hl:(k+1) % R.length<R.length:=Nat.mod_lt _ (by omega);rw[χ,θ hl];exact hR _ (Jbs hl)
  ·exact BZ R hR k f (by omega) hf d e he
theorem Cj {P:D→Prop}:∀(L:List VC) (f:D→Option D),(∀v∈L,∀d∈v.2.1.2.2.2,P d)→(∀d e,f d=ζ e→P e)→∀d e,xJ L f d=ζ e→P e
 |[],f,_,hf=>hf
 |v::r,f,hL,hf=>Cj r _ (fun u hu=>hL u (Jad _ hu)) (BZ _ (hL v (Jai ..)) _ _ (Δ _) hf)
theorem JU {P:D→Prop} {Vs:List VC} (h:∀v∈Vs,∀d∈v.2.1.2.2.2,P d):∀d e,gi Vs d=ζ e→P e:=Cj Vs _ h (fun _ _ q=>by cases q)
theorem Ig {P:D→Prop} (R:List D) (hR:∀d∈R,P d):∀k (f:D→Option D),k≤R.length→(∀d,(f d).isSome=τ→P d)→∀d,(xI R k f d).isSome=τ→P d
 |0,f,_,hf=>hf
 |k+1,f,hk,hf=>fun d he=>by
  unfold xI at he;split at he
  ·rename_i e;have hl:k<R.length:=by omega
   rw[e,χ,θ hl];exact hR _ (Jbs hl)
  ·exact Ig R hR k f (by omega) hf d he
theorem Il {P:D→Prop}:∀(L:List VC) (f:D→Option D),(∀v∈L,∀d∈v.2.1.2.2.2,P d)→(∀d,(f d).isSome=τ→P d)→∀d,(xJ L f d).isSome=τ→P d
 |[],f,_,hf=>hf
 |v::r,f,hL,hf=>Il r _ (fun u hu=>hL u (Jad _ hu)) (Ig _ (hL v (Jai ..)) _ _ (Δ _) hf)
theorem Mh {P:D→Prop} {Vs:List VC} (h:∀v∈Vs,∀d∈v.2.1.2.2.2,P d):∀d,(gi Vs d).isSome=τ→P d:=Il Vs _ h (fun _ q=>by cases q)
theorem kM (L:List D):(aM L).Perm L:=by
 unfold aM;exact List.perm_append_comm.trans (by rw[Jbf])
theorem zu {L:List D} {a d:D} (h:¬d∈L):(ja L a d).Perm (d::L):=by
 rw[ja,if_neg h];refine List.perm_middle.trans ?_;rw[Jbf]
theorem K2 (L:List D) (a d:D):(ja L a d).length≤L.length+1:=by
 by_cases h:d∈L
 ·rw[ja,if_pos h];omega
 ·rw[(zu (a:=a) h).length_eq];simp
theorem pP (L:List D):(aM L).length=L.length:=(kM L).length_eq
theorem Q4 {L:List D} (n:L.Nodup):aM L=aM (aM L):=(mV n).symm
def rgV (v:VC) (L:List D):VC:=(v.1,(ε,L.length,0,L),v.2.2)
def remV (x:D) (v:VC):VC:=rgV v (aM (kt v.2.1.2.2.2 x))
def J1 (x:D) (v:VC):VC:=rgV v (aM (ja v.2.1.2.2.2 (0,0,0) x))
theorem pw (A B:List VC):ao (A++B)=ao A++ao B:=List.flatMap_append ..
theorem jR (v:VC) (B:List VC):ao (v::B)=v.2.1.2.2.2++ao B:=Jby ..
theorem KB {Vs:List VC} {k:Nat} {u u':VC} {x:D} (hu:Vs[k]? =ζ u) (hp:u'.2.1.2.2.2.Perm (x::u.2.1.2.2.2)):(ao (Vs.set k u')).Perm (x::ao Vs):=by
 obtain⟨hk,e⟩:=ν.1 hu
 have e1:Vs=Vs.take k++u::Vs.drop (k+1):=by
  rw[←e,←Χ hk,Jbf]
 have e2:Vs.set k u'=Vs.take k++u'::Vs.drop (k+1):=by
  rw[List.set_eq_take_append_cons_drop,if_pos hk]
 rw[e2]
 conv=>rhs;rw[e1]
 rw[pw,pw,jR,jR]
 refine((List.Perm.append_right _ hp).append_left _).trans ?_
 simp only[List.cons_append];exact List.perm_middle
theorem tp (x:D):∀Vs:List VC,(ao (Vs.map (remV x))).Perm (kt (ao Vs) x)
 |[]=>List.Perm.refl _
 |v::r=>by
  rw[ι,jR,jR,kt,List.filter_append];exact(kM _).append (tp x r)
theorem lu {Vs:List VC} (h:(ao Vs).Nodup) {v:VC} (hv:v∈Vs):v.2.1.2.2.2.Nodup:=by
 obtain⟨a,b,rfl⟩:=List.append_of_mem hv;rw[pw,jR] at h;exact(JaL.1 (JaL.1 h).2.1).1
section
variable {Vs:List VC} {Es:List EC}
theorem aG.two (h:aG Vs Es) {x:D} (hx:x∈ao Vs) {k:Nat} {y:VC} (hy:Vs[k]? =ζ y) (tR:¬x∈y.2.1.2.2.2):jZ (Vs.set k (J1 x y)) Es=10:=by
 have hym:=ω hy;have kZ:=h.once;have e0:decide (24<(Vs.set k (J1 x y)).length∨40<Es.length)=ρ:=decide_eq_false (by have:=h.v24;have:=h.e40;rw[List.length_set];omega);have e1:=j0 (fun v:VC=>v.1) Vs k y (J1 x y) hy rfl
 have e2:rY (DQ Es []) (ao (Vs.set k (J1 x y)))=ρ:=by
  cases hb:rY (DQ Es []) (ao (Vs.set k (J1 x y))) with
  |false=>rfl
  |true=>
   have h1:=(ig _ _).1 hb;have h2:=(KB hy (x:=x) (u':=J1 x y) ((kM _).trans (zu tR))).symm.trans h1;have h3:=h2.nodup_iff.2 (kP Es [] List.nodup_nil);exact absurd hx (JaJ.1 h3).1
 unfold jZ yE;rw[e0,e1,e2,h.rv,h.re];simp
end
def vI (L:List Int) (e:Nat × Nat):List Int:=(L.set e.1 (min (L.getD e.1 0) (L.getD e.2 0))).set e.2 (min (L.getD e.1 0) (L.getD e.2 0))
def dq (P:List (Nat × Nat)) (n:Nat):Nat→List Int
 |0=>lL n
 |j+1=>P.foldl vI (dq P n j)
theorem Ih (L:List Int) (e:Nat × Nat):(vI L e).length=L.length:=by simp[vI]
theorem xt:∀(P:List (Nat × Nat)) (L:List Int),(P.foldl vI L).length=L.length
 |[],_=>rfl
 |e::P,L=>by rw[List.foldl_cons,xt P,Ih]
theorem nE (P:List (Nat × Nat)) (n:Nat):∀j,(dq P n j).length=n
 |0=>by simp[dq,lL]
 |j+1=>by rw[dq,xt,nE P n j]
theorem CB (L:List Int) (i k:Nat) (v:Int) (hi:i<L.length):(L.set i v).getD k 0=if i=k then v else L.getD k 0:=by
 rw[χ,List.getElem?_set,χ]
 by_cases h:i=k
 ·subst h;simp[hi]
 ·simp[h]
theorem AU {L:List Int} {a b:Nat} (ha:a<L.length) (hb:b<L.length) (k:Nat):(vI L (a,b)).getD k 0=if k=a∨k=b then min (L.getD a 0) (L.getD b 0) else L.getD k 0:=by
 unfold vI;rw[CB _ _ _ _ (by simpa using hb),CB _ _ _ _ ha]
 by_cases h1:b=k
 ·rw[if_pos h1,if_pos (.inr h1.symm)]
 ·rw[if_neg h1]
  by_cases h2:a=k
  ·rw[if_pos h2,if_pos (.inl h2.symm)]
  ·rw[if_neg h2,if_neg (fun h=>h.elim (fun h=>h2 h.symm) (fun h=>h1 h.symm))]
def Down (n:Nat) (M L L':List Int):Prop:=L'.length=n∧∀i,i<n→M.getD i 0≤L'.getD i 0∧L'.getD i 0≤L.getD i 0
theorem CV {n:Nat} {M L:List Int} {a b:Nat} (hl:L.length=n) (hM:∀i,i<n→M.getD i 0≤L.getD i 0) (ha:a<n) (hb:b<n) (he:M.getD a 0=M.getD b 0):Down n M L (vI L (a,b)):=by
 refine⟨by rw[Ih,hl],fun i hi=>?_⟩
 rw[AU (by omega) (by omega)];have h1:=hM a ha;have h2:=hM b hb;have h3:=hM i hi;split
 ·rename_i h;rcases h with rfl|rfl<;>omega
 ·omega
theorem pX {n:Nat} {M:List Int}:∀(P:List (Nat × Nat)) (L:List Int),L.length=n→(∀i,i<n→M.getD i 0≤L.getD i 0)→(∀e∈P,e.1<n∧e.2<n∧M.getD e.1 0=M.getD e.2 0)→Down n M L (P.foldl vI L)
 |[],L,hl,hM,_=>⟨hl,fun i hi=>⟨hM i hi,Int.le_refl _⟩⟩
 |(a,b)::P,L,hl,hM,hP=>by
  obtain⟨h1,h2,h3⟩:=hP (a,b) (Jai ..);have hd:=CV hl hM h1 h2 h3;obtain⟨g1,g2⟩:=pX P (vI L (a,b)) hd.1 (fun i hi=>(hd.2 i hi).1) (fun e he=>hP e (Jad _ he));exact⟨g1,fun i hi=>⟨(g2 i hi).1,Int.le_trans (g2 i hi).2 (hd.2 i hi).2⟩⟩
theorem zl {n:Nat} {M:List Int} {a b:Nat}:∀(P:List (Nat × Nat)) (L:List Int),L.length=n→(∀i,i<n→M.getD i 0≤L.getD i 0)→(∀e∈P,e.1<n∧e.2<n∧M.getD e.1 0=M.getD e.2 0)→(a,b)∈P→
 (L.getD a 0=M.getD a 0∨L.getD b 0=M.getD b 0)→(P.foldl vI L).getD a 0=M.getD a 0∧(P.foldl vI L).getD b 0=M.getD b 0
 |(c,d)::P,L,hl,hM,hP,hm,ho=>by
  obtain⟨h1,h2,h3⟩:=hP (c,d) (Jai ..);obtain⟨k1,k2,k3⟩:=hP (a,b) hm;simp only at k1 k2 k3 h1 h2 h3;have hd:=CV hl hM h1 h2 h3;have hPr:=fun e he=>hP e (Jad (c,d) he)
  rw[List.foldl_cons]
  by_cases e:(a,b)=(c,d)
  ·injection e with e1 e2
   subst e1 e2;have Rm:=pX P (vI L (a,b)) hd.1 (fun i hi=>(hd.2 i hi).1) hPr;have ga:=AU (L:=L) (a:=a) (b:=b) (by omega) (by omega) a;have gb:=AU (L:=L) (a:=a) (b:=b) (by omega) (by omega) b;rw[if_pos (.inl rfl)] at ga;rw[if_pos (.inr rfl)] at gb;have ma:=hM a k1;have mb:=hM b k2;obtain⟨q1,q2⟩:=Rm.2 a k1;obtain⟨q3,q4⟩:=Rm.2 b k2;rw[ga] at q2;rw[gb] at q4;have amy:min (L.getD a 0) (L.getD b 0)=M.getD a 0:=by rcases ho with h|h<;>omega
   constructor<;>omega
  ·have O0:(a,b)∈P:=(Η.1 hm).resolve_left e;refine zl P (vI L (c,d)) hd.1 (fun i hi=>(hd.2 i hi).1) hPr O0 ?_;rcases ho with h|h
   ·have:=hd.2 a k1;exact .inl (by omega)
   ·have:=hd.2 b k2;exact .inr (by omega)
def hasB (M L:List Int) (i:Nat):Bool:=L.getD i 0==M.getD i 0
theorem FN {n:Nat} {P:List (Nat × Nat)} {M:List Int} (h:uN n (fun i k=>(i,k)∈P) M) (hP:∀e∈P,e.1<n∧e.2<n):dq P n n=M:=by
 have hP3:∀e∈P,e.1<n∧e.2<n∧M.getD e.1 0=M.getD e.2 0:=fun e he=>⟨(hP e he).1,(hP e he).2,h.co e.1 e.2 (hP e he).1 (hP e he).2 he⟩
 have OY:∀i,i<n→0≤M.getD i 0∧M.getD i 0≤i∧M.getD (M.getD i 0).toNat 0=M.getD i 0:=fun i hi=>h.ok i (by rw[h.len];exact hi)
 have OT:∀j,∀i,i<n→M.getD i 0≤(dq P n j).getD i 0∧(dq P n j).getD i 0≤i:=fun j=>by
  induction j with
  |zero=>
   intro i hi;show M.getD i 0≤(lL n).getD i 0∧(lL n).getD i 0≤i;rw[tH n i hi];exact⟨(OY i hi).2.1,Int.le_refl _⟩
  |succ j ih=>
   intro i hi;have hd:=pX P (dq P n j) (nE P n j) (fun i hi=>(ih i hi).1) hP3;exact⟨(hd.2 i hi).1,Int.le_trans (hd.2 i hi).2 (ih i hi).2⟩
 have ku:∀j i,i<n→hasB M (dq P n j) i=τ→hasB M (dq P n (j+1)) i=τ:=fun j i hi hb=>by
  have hd:=pX P (dq P n j) (nE P n j) (fun i hi=>(OT j i hi).1) hP3;have h1:=hd.2 i hi;have h2:(dq P n j).getD i 0=M.getD i 0:=eq_of_beq hb
  have h3:(dq P n (j+1)).getD i 0=M.getD i 0:=by
   show(P.foldl vI (dq P n j)).getD i 0=_
   omega
  rw[hasB,h3];simp
 have aX:∀j,(∀i,i<n→hasB M (dq P n (j+1)) i=hasB M (dq P n j) i)→∀i,i<n→hasB M (dq P n j) i=τ:=fun j hs i hi=>by
  have hco:Co n (fun i k=>(i,k)∈P) (fun i=>if hasB M (dq P n j) i=τ then 1 else 0):=fun a b ha hb hm=>by
   have SY:=zl P (dq P n j) (nE P n j) (fun i hi=>(OT j i hi).1) hP3 hm
   have key:∀{x y:Nat},x<n→y<n→((dq P n j).getD x 0=M.getD x 0→(dq P n (j+1)).getD y 0=M.getD y 0)→hasB M (dq P n j) x=τ→hasB M (dq P n j) y=τ:=fun {x y} hx hy himp hb=>by
    rw[←hs y hy,hasB,himp (eq_of_beq hb)];simp
   have k1:=key ha hb (fun e=>(SY (.inl e)).2);have k2:=key hb ha (fun e=>(SY (.inr e)).1);simp only
   by_cases q:hasB M (dq P n j) a=τ
   ·rw[if_pos q,if_pos (k1 q)]
   ·rw[if_neg q,if_neg (fun h=>q (k2 h))]
  obtain⟨h0,h1,h2⟩:=OY i hi;obtain⟨r,hr⟩:∃r:Nat,M.getD i 0=(r:Int):=⟨(M.getD i 0).toNat,by omega⟩
  rw[hr,Int.toNat_natCast] at h2;have kc:r<n:=by omega
  have aaN:hasB M (dq P n j) r=τ:=by
   have h3:=OT j r kc;rw[h2] at h3;rw[hasB,h2,beq_iff_eq];omega
  have e:=h.fin _ hco r i kc hi (by rw[h2,hr]);replace e:(if hasB M (dq P n j) r=τ then(1:Int) else 0)=(if hasB M (dq P n j) i=τ then 1 else 0):=e;rw[if_pos aaN] at e
  by_cases q:hasB M (dq P n j) i=τ
  ·exact q
  ·rw[if_neg q] at e;omega
 have xi:∀j,(∀i,i<n→hasB M (dq P n j) i=τ)∨j≤(Ω n).countP (hasB M (dq P n j)):=fun j=>by
  induction j with
  |zero=>exact .inr (Jas _)
  |succ j ih=>
   rcases ih with ih|ih
   ·exact .inl fun i hi=>ku j i hi (ih i hi)
   ·by_cases hs:∀i,i<n→hasB M (dq P n (j+1)) i=hasB M (dq P n j) i
    ·exact .inl fun i hi=>ku j i hi (aX j hs i hi)
    ·refine .inr ?_
     have hex:∃i,i<n∧hasB M (dq P n (j+1)) i=τ∧hasB M (dq P n j) i=ρ:=by
      refine Classical.byContradiction fun kZ=>hs fun i hi=>?_
      cases q1:hasB M (dq P n j) i with
      |true=>exact ku j i hi q1
      |false=>
       cases q2:hasB M (dq P n (j+1)) i with
       |false=>rfl
       |true=>exact absurd ⟨i,hi,q2,q1⟩ kZ
     obtain⟨i0,Bz,q1,q2⟩:=hex
     have h1:(Ω n).countP (hasB M (dq P n j))≤(Ω n).countP (fun i=>hasB M (dq P n (j+1)) i && decide (i≠i0)):=by
      refine List.countP_mono_left fun i hi hb=>?_
      have hi:=List.mem_range.1 hi;rw[ku j i hi hb,Bool.true_and,decide_eq_true_eq];rintro rfl;rw[hb] at q2;cases q2
     have h2:=fG (fun i=>hasB M (dq P n (j+1)) i && decide (i≠i0)) (hasB M (dq P n (j+1))) i0 (by simp) q1 (fun i hi=>by simp[hi]) n;rw[if_pos Bz] at h2;omega
 have kg:∀i,i<n→hasB M (dq P n n) i=τ:=by
  rcases xi n with h1|h1
  ·exact h1
  ·intro i hi;have h2:(Ω n).countP (hasB M (dq P n n))=(Ω n).length:=Nat.le_antisymm List.countP_le_length (by rw[List.length_range];exact h1);exact(List.countP_eq_length.1 h2) i (List.mem_range.2 hi)
 refine List.ext_getElem (by rw[nE,h.len]) fun i h1 h2=>?_
 have hi:i<n:=by rw[nE] at h1;exact h1
 have e:(dq P n n).getD i 0=M.getD i 0:=eq_of_beq (kg i hi);rw[χ,χ,θ h1,θ h2] at e;exact e
def Ku (Vs:List VC) (d:D):Nat:=(fm 0 Vs (lE Vs d).1).toNat
def ub (Vs:List VC) (Es:List EC):List (Nat × Nat):=Es.map fun e=>(Ku Vs (e.1.1,e.1.2,0),Ku Vs (e.1.1,e.1.2,1))
section
variable {Vs:List VC} {Es:List EC}
theorem aG.stands (h:aG Vs Es) {i:Nat} {v:VC} (hv:Vs[i]? =ζ v) {d:D} (hd:d∈v.2.1.2.2.2):lE Vs d=(v.1,τ)∧fm 0 Vs v.1=(i:Int):=by
 refine⟨h.at (ω hv) hd,?_⟩
 have:=BM Vs 0 i v (dh h.rv) hv
 simpa using this
theorem aG.plc (h:aG Vs Es) {i:Nat} {v:VC} (hv:Vs[i]? =ζ v) {d:D} (hd:d∈v.2.1.2.2.2):Ku Vs d=i:=by
 obtain⟨h1,h2⟩:=h.stands hv hd;rw[Ku,h1,h2];simp
theorem aG.dart (h:aG Vs Es) {e:EC} (he:e∈Es) (s:Int) (hs:s=0∨s=1):∃i v,Vs[i]? =ζ v∧(e.1.1,e.1.2,s)∈v.2.1.2.2.2∧i<Vs.length:=by
 have h1:(e.1.1,e.1.2,s)∈ao Vs:=h.pm.mem_iff.2 ((jL Es [] _).2 (.inr ⟨e,he,by rcases hs with rfl|rfl;exact .inl rfl;exact .inr rfl⟩));obtain⟨v,hv,hr⟩:=Jat.1 h1;obtain⟨i,hi⟩:=List.getElem?_of_mem hv;exact⟨i,v,hi,hr,(ν.1 hi).1⟩
theorem aG.of_dart (h:aG Vs Es) {v:VC} (hv:v∈Vs) {d:D} (hd:d∈v.2.1.2.2.2):∃e∈Es,e.1=(d.1,d.2.1)∧(d.2.2=0∨d.2.2=1):=by
 have h1:=h.pm.mem_iff.1 (Jat.2 ⟨v,hv,hd⟩);rcases (jL Es [] d).1 h1 with h2|⟨e,he,h2|h2⟩
 ·cases h2
 ·exact⟨e,he,by rw[h2],.inl (by rw[h2])⟩
 ·exact⟨e,he,by rw[h2],.inr (by rw[h2])⟩
theorem IB (h:aG Vs Es):∀e∈ub Vs Es,e.1<Vs.length∧e.2<Vs.length:=fun p hp=>by
 obtain⟨e,he,rfl⟩:=Α.1 hp;obtain⟨i,v,hv,hd,hi⟩:=h.dart he 0 (.inl rfl);obtain⟨k,u,hu,lB,hk⟩:=h.dart he 1 (.inr rfl);rw[h.plc hv hd,h.plc hu lB];exact⟨hi,hk⟩
theorem RN (h:aG Vs Es) (f:Nat→Int):Co Vs.length (Sh Vs) f↔Co Vs.length (fun i k=>(i,k)∈ub Vs Es) f:=by
 constructor
 ·rintro hf i k hi hk hm;obtain⟨e,he,hp⟩:=Α.1 hm;obtain⟨a,v,hv,hd,ha⟩:=h.dart he 0 (.inl rfl);obtain⟨b,u,hu,lB,hb⟩:=h.dart he 1 (.inr rfl);rw[h.plc hv hd,h.plc hu lB] at hp;injection hp with e1 e2
  subst e1 e2;exact hf _ _ ha hb ⟨(e.1.1,e.1.2),⟨v,hv,_,hd,rfl⟩,⟨u,hu,_,lB,rfl⟩⟩
 ·rintro hf i k hi hk ⟨y,⟨v,hv,x,hx,rfl⟩,⟨u,hu,z,hz,ez⟩⟩;obtain⟨e,he,e1,hs⟩:=h.of_dart (ω hv) hx;obtain⟨e',Rs,e1',hs'⟩:=h.of_dart (ω hu) hz;have To:=h.plc hv hx;have XJ:=h.plc hu hz;obtain⟨x1,x2,x3⟩:=x;obtain⟨z1,z2,z3⟩:=z;simp only[Jba] at ez;obtain⟨rfl,rfl⟩:=ez;simp only at e1 hs hs';have hm:(Ku Vs (x1,x2,0),Ku Vs (x1,x2,1))∈ub Vs Es:=Α.2 ⟨e,he,by rw[e1]⟩;have hb:=IB h _ hm;have hfe:=hf _ _ hb.1 hb.2 hm;rcases hs with rfl|rfl<;>rcases hs' with rfl|rfl
  ·rw[To] at XJ;rw[XJ]
  ·rw[To,XJ] at hfe;exact hfe
  ·rw[To,XJ] at hfe;exact hfe.symm
  ·rw[To] at XJ;rw[XJ]
theorem Ju (h:aG Vs Es):uN Vs.length (fun i k=>(i,k)∈ub Vs Es) (dm Vs):=(mz Vs).of_iff (RN h)
theorem JT (h:aG Vs Es):dq (ub Vs Es) Vs.length Vs.length=dm Vs:=FN (Ju h) (IB h)
theorem VA (Vs:List VC):fg (dm Vs)≤Vs.length:=by
 unfold fg
 have:=List.countP_le_length (p:=cv (dm Vs)) (l:=Ω (dm Vs).length)
 rw[List.length_range,mx] at this;rw[mx];exact this
end
theorem IE {R:List D} (hn:R.Nodup) (f:D→Option D):∀k,k≤R.length→∀y,xI R k f y=if y∈R.take k then ζ (R.getD ((R.idxOf y+1) % R.length) (0,0,0)) else f y
 |0,_,y=>by simp[xI]
 |k+1,hk,y=>by
  have vT:k<R.length:=by omega
  have e:R.take (k+1)=R.take k++[R.getD k (0,0,0)]:=by
   rw[JaQ vT,χ,θ vT];rfl
  have ei:R.idxOf (R.getD k (0,0,0))=k:=by
   rw[χ,θ vT];exact hn.idxOf_getElem k vT
  rw[xI]
  show(if y=R.getD k (0,0,0) then ζ (R.getD ((k+1) % R.length) (0,0,0)) else xI R k f y)=_
  rw[IE hn f k (by omega) y,e]
  by_cases q:y=R.getD k (0,0,0)
  ·rw[if_pos q,if_pos (Jan.2 (.inr (Jao.2 q))),q,ei]
  ·rw[if_neg q]
   by_cases q2:y∈R.take k
   ·rw[if_pos q2,if_pos (Jan.2 (.inl q2))]
   ·rw[if_neg q2,if_neg (fun h=>(Jan.1 h).elim q2 (fun h=>q (Jao.1 h)))]
def ee (R:List D) (y:D):D:=R.getD ((R.idxOf y+1) % R.length) (0,0,0)
theorem Bn:∀(Vs:List VC) (f:D→Option D),(ao Vs).Nodup→(∀y,y∉ao Vs→xJ Vs f y=f y)∧∀v∈Vs,∀y∈v.2.1.2.2.2,xJ Vs f y=ζ (ee v.2.1.2.2.2 y)
 |[],f,_=>⟨fun _ _=>rfl,by simp⟩
 |v::r,f,hn=>by
  have FZ:=hn;rw[eA,JaL] at hn;obtain⟨h1,h2⟩:=Bn r (xI v.2.1.2.2.2 v.2.1.2.2.2.length f) hn.2.1;have hg:=fun y=>IE hn.1 f v.2.1.2.2.2.length (Δ _) y
  rw[List.take_length] at hg;constructor
  ·intro y hy;rw[eA,Jan,not_or] at hy;rw[xJ,h1 y hy.2,hg,if_neg hy.1]
  ·intro u hu y hy;rcases Η.1 hu with rfl|hu
   ·have SN:y∉ao r:=fun q=>hn.2.2 y hy y q rfl
    rw[xJ,h1 y SN,hg,if_pos hy];rfl
   ·rw[xJ];exact h2 u hu y hy
section
variable {Vs:List VC} {Es:List EC}
theorem Bt (hn:(ao Vs).Nodup) {v:VC} (hv:v∈Vs) {y:D} (hy:y∈v.2.1.2.2.2):gi Vs y=ζ (ee v.2.1.2.2.2 y):=(Bn Vs _ hn).2 v hv y hy
theorem vf (hn:(ao Vs).Nodup) {y:D} (hy:y∉ao Vs):gi Vs y=ε:=(Bn Vs _ hn).1 y hy
theorem cL {y:D}:y∈ao Vs↔∃v∈Vs,y∈v.2.1.2.2.2:=Jat
def iO (Vs:List VC) (y:D):D:=(gi Vs y).getD (0,0,0)
def fQ (Vs:List VC) (y:D):D:=iO Vs (dw y)
theorem ic (hn:(ao Vs).Nodup) {v:VC} (hv:v∈Vs) {y:D} (hy:y∈v.2.1.2.2.2):iO Vs y=ee v.2.1.2.2.2 y:=by rw[iO,Bt hn hv hy];rfl
theorem vg (hn:(ao Vs).Nodup) (y:D):gi Vs y=if y∈ao Vs then ζ (iO Vs y) else ε:=by
 by_cases h:y∈ao Vs
 ·obtain⟨v,hv,hy⟩:=cL.1 h;rw[if_pos h,iO,Bt hn hv hy];rfl
 ·rw[if_neg h,vf hn h]
theorem jQ {R:List D} {y:D} (hy:y∈R):ee R y∈R:=by
 have hl:=Jbk hy
 have:(R.idxOf y+1) % R.length<R.length:=Nat.mod_lt _ hl
 rw[ee,χ,θ this];exact Jbs _
theorem MC {R:List D} (hn:R.Nodup) {x y:D} (hx:x∈R) (hy:y∈R) (e:ee R x=ee R y):x=y:=by
 have hl:=Jbk hx;have h1:(R.idxOf x+1) % R.length<R.length:=Nat.mod_lt _ hl;have h2:(R.idxOf y+1) % R.length<R.length:=Nat.mod_lt _ hl;unfold ee at e;rw[χ,χ,θ h1,θ h2] at e;have e1:(R.idxOf x+1) % R.length=(R.idxOf y+1) % R.length:=(List.getElem_inj hn).1 e;have i1:=List.idxOf_lt_length_of_mem hx;have i2:=List.idxOf_lt_length_of_mem hy
 have e2:R.idxOf x=R.idxOf y:=by
  by_cases q1:R.idxOf x+1=R.length
  ·rw[q1,Nat.mod_self] at e1
   by_cases q2:R.idxOf y+1=R.length
   ·omega
   ·rw[JbE (show R.idxOf y+1<R.length by omega)] at e1;omega
  ·rw[JbE (show R.idxOf x+1<R.length by omega)] at e1
   by_cases q2:R.idxOf y+1=R.length
   ·rw[q2,Nat.mod_self] at e1;omega
   ·rw[JbE (show R.idxOf y+1<R.length by omega)] at e1;omega
 have g1:R[R.idxOf x]'i1=x:=List.getElem_idxOf i1;have g2:R[R.idxOf y]'i2=y:=List.getElem_idxOf i2;rw[←g1,←g2];exact(List.getElem_inj hn).2 e2
theorem wX (hn:(ao Vs).Nodup):Pm (iO Vs) (ao Vs):=by
 have key:∀{v:VC},v∈Vs→∀{x:D},x∈v.2.1.2.2.2→∀{u:VC},u∈Vs→x∈u.2.1.2.2.2→u.2.1.2.2.2=v.2.1.2.2.2:=by
  intro v hv x hx u hu uU;have e1:=Bt hn hv hx;clear e1;revert hv hu;generalize Vs=Ws at hn
  induction Ws with
  |nil=>intro h;cases h
  |cons z r ih=>
   intro h1 h2;rw[eA,JaL] at hn;rcases Η.1 h1 with e1|k1
   ·rcases Η.1 h2 with e2|k2
    ·rw[e1,e2]
    ·exact(hn.2.2 x (e1▸hx) x (Jat.2 ⟨u,k2,uU⟩) rfl).elim
   ·rcases Η.1 h2 with e2|k2
    ·exact(hn.2.2 x (e2▸uU) x (Jat.2 ⟨v,k1,hx⟩) rfl).elim
    ·exact ih hn.2.1 k1 k2
 refine⟨hn,fun x hx=>?_,fun x hx y hy e=>?_⟩
 ·obtain⟨v,hv,hx⟩:=cL.1 hx;rw[ic hn hv hx];exact cL.2 ⟨v,hv,jQ hx⟩
 ·obtain⟨v,hv,hx⟩:=cL.1 hx;obtain⟨u,hu,hy⟩:=cL.1 hy;rw[ic hn hv hx,ic hn hu hy] at e;have h1:=jQ hx;have h2:=jQ hy;have e2:=key hv h1 hu (e▸h2);rw[e2] at e hy;exact MC (lu hn hv) hx hy e
theorem lD (d:D):dw (dw d)=d:=by
 obtain⟨a,b,c⟩:=d
 show(a,b,1 - (1 - c))=(a,b,c)
 rw[show(1:Int) - (1 - c)=c by omega]
theorem aG.mem (h:aG Vs Es) (d:D):d∈ao Vs↔∃e∈Es,e.1=(d.1,d.2.1)∧(d.2.2=0∨d.2.2=1):=by
 rw[h.pm.mem_iff,jL];constructor
 ·rintro (q|⟨e,he,rfl|rfl⟩)
  ·cases q
  ·exact⟨e,he,rfl,.inl rfl⟩
  ·exact⟨e,he,rfl,.inr rfl⟩
 ·rintro⟨e,he,e1,q⟩;obtain⟨a,b,c⟩:=d;refine .inr ⟨e,he,?_⟩;simp only at e1 q;rcases q with rfl|rfl
  ·exact .inl (by rw[e1])
  ·exact .inr (by rw[e1])
theorem aG.oth (h:aG Vs Es) {d:D} (hd:d∈ao Vs):dw d∈ao Vs:=by
 obtain⟨e,he,e1,q⟩:=(h.mem d).1 hd;exact(h.mem _).2 ⟨e,he,e1,by show 1 - d.2.2=0∨1 - d.2.2=1;omega⟩
theorem aG.ohs (h:aG Vs Es) (d:D):dw d∈ao Vs↔d∈ao Vs:=⟨fun q=>lD d▸h.oth q,h.oth⟩
theorem aG.phi (h:aG Vs Es):Pm (fQ Vs) (ao Vs):=
 ⟨h.once,fun x hx=>(wX h.once).cl _ (h.oth hx),fun x hx y hy e=>by
  have:=(wX h.once).inj _ (h.oth hx) _ (h.oth hy) e
  rw[←lD x,this,lD]⟩
theorem aG.wfS (h:aG Vs Es) (hg:mG Vs Es) {d:D} (hd:d∈ao Vs):wfS d:=by
 obtain⟨v,hv,hr⟩:=cL.1 hd;obtain⟨e,he,e1,q⟩:=(h.mem d).1 hd;exact⟨hg.v v hv d hr,by omega,by omega⟩
theorem aG.l80 (h:aG Vs Es):(ao Vs).length≤80:=by rw[h.len];have:=h.e40;omega
theorem Gy (h:aG Vs Es) (x:D):∀(k:Nat) (y:D),y∈ao Vs→BI (gi Vs) x k y=l9 (fQ Vs) x k y
 |0,_,_=>rfl
 |k+1,y,hy=>by
  have hz:=h.phi.cl y hy;rw[BI,l9,vg h.once,if_pos (h.oth hy)];show y::(if fQ Vs y=x then[] else BI (gi Vs) x k (fQ Vs y))=_;rw[Gy h x k _ hz]
def kU (Vs:List VC) (x:D):List D:=if x∈ao Vs then l9 (fQ Vs) x 80 x else[]
theorem Lu (h:aG Vs Es) {N:Nat} (hN:(ao Vs).length≤N) (x:D):gJ (gi Vs) N x=kU Vs x:=by
 rw[gJ,kU,vg h.once]
 by_cases hx:x∈ao Vs
 ·rw[if_pos hx,if_pos hx];obtain⟨p,hp,a8⟩:=h.phi.per hx
  have:=h.l80
  rw[Gy h x N x hx,pI hp (by omega),pI hp (by omega)];rfl
 ·rw[if_neg hx,if_neg hx];rfl
theorem JR (h:aG Vs Es) (x:D):(kU Vs x).length≤80:=by
 rw[kU]
 by_cases hx:x∈ao Vs
 ·obtain⟨p,hp,a8⟩:=h.phi.per hx
  have:=h.l80
  rw[if_pos hx,pI hp (by omega),IF];omega
 ·rw[if_neg hx];exact Jas _
theorem yt.formed {S:List D} (h:aG Vs Es) (hg:mG Vs Es) (k:yt (gi Vs) S):S.length=(ao Vs).length:=by
 have hm:∀x,x∈S↔x∈ao Vs:=fun x=>by
  constructor
  ·intro hx;have h1:=(k.2.2 x (k.2.1 x hx)).1 hx;rw[vg h.once] at h1
   by_cases q:x∈ao Vs
   ·exact q
   ·rw[if_neg q] at h1;cases h1
  ·intro hx
   refine(k.2.2 x (h.wfS hg hx).1).2 ?_
   rw[vg h.once,if_pos hx];rfl
 exact Nat.le_antisymm (zH k.1 fun x hx=>(hm x).1 hx) (zH h.once fun x hx=>(hm x).2 hx)
end
def qt (L:List EC):List D:=L.flatMap fun e=>[(e.1.1,e.1.2,0),(e.1.1,e.1.2,1)]
theorem BW (e:EC) (L:List EC):qt (e::L)=(e.1.1,e.1.2,0)::(e.1.1,e.1.2,1)::qt L:=rfl
theorem Q7 (L M:List EC):qt (L++M)=qt L++qt M:=by simp[qt,List.flatMap_append]
theorem OF (L:List EC) (j:Nat) (x:EC) (h:L[j]? =ζ x):qt (L.take (j+1))=qt (L.take j)++[(x.1.1,x.1.2,0),(x.1.1,x.1.2,1)]:=by
 rw[Jbc,h,Q7];rfl
theorem Ir:∀L:List EC,(qt L).length=2*L.length
 |[]=>rfl
 |e::r=>by
  rw[BW,JaH,JaH,Ir r,JaH];omega
theorem Ik (L:List EC) (d:D):d∈qt L↔∃e∈L,e.1=(d.1,d.2.1)∧(d.2.2=0∨d.2.2=1):=by
 obtain⟨a,b,c⟩:=d;unfold qt;rw[Jat];constructor
 ·rintro⟨e,he,h⟩
  refine⟨e,he,?_⟩
  simp only[Η,Jba,List.mem_nil_iff,or_false] at h;rcases h with⟨rfl,rfl,rfl⟩|⟨rfl,rfl,rfl⟩
  ·exact⟨rfl,.inl rfl⟩
  ·exact⟨rfl,.inr rfl⟩
 ·rintro⟨e,he,h1,h2⟩
  refine⟨e,he,?_⟩
  simp only[Η,Jba,List.mem_nil_iff,or_false];simp only at h1 h2;rw[h1];rcases h2 with rfl|rfl
  ·exact .inl ⟨rfl,rfl,rfl⟩
  ·exact .inr ⟨rfl,rfl,rfl⟩
theorem aG.ds {Vs:List VC} {Es:List EC} (h:aG Vs Es) (d:D):d∈qt Es↔d∈ao Vs:=by rw[Ik,h.mem]
theorem tV {α:Type} {f g:α→α} {L:List α} (h:Pm f L) (e:∀x∈L,f x=g x) {x:α} (hx:x∈L):∀k,fR f k x=fR g k x
 |0=>rfl
 |k+1=>by rw[dp,dp,←tV h e hx k,e _ (h.it hx k)]
theorem CS {α:Type} {f g:α→α} {L:List α} (h:Pm f L) (e:∀x∈L,f x=g x) {x:α} (hx:x∈L) (y:α):Rl f x y↔Rl g x y:=
 ⟨fun⟨i,q⟩=>⟨i,(tV h e hx i).symm.trans q⟩,fun⟨i,q⟩=>⟨i,(tV h e hx i).trans q⟩⟩
theorem jW.congr {α:Type} {f g:α→α} {L P:List α} (h:Pm f L) (e:∀x∈L,f x=g x) (hP:jW f L P):jW g L P:=
 ⟨hP.nd,hP.sub,fun x hx=>by
  obtain⟨p,hp,r⟩:=hP.all x hx;exact⟨p,hp,(CS h e (hP.sub p hp) x).1 r⟩,fun p hp q hq r=>hP.one p hp q hq ((CS h e (hP.sub p hp) q).2 r)⟩
def qf (l:List I2) (d:D):D:=if (d.1,d.2.1)∈l then dw d else d
def om (Vs:List VC) (l:List I2) (d:D):D:=iO Vs (qf l d)
theorem Bo (l:List I2) (d:D):qf l (qf l d)=d:=by
 by_cases q:(d.1,d.2.1)∈l
 ·have e:qf l d=dw d:=if_pos q;rw[e];have e2:qf l (dw d)=dw (dw d):=if_pos q;rw[e2,lD]
 ·have e:qf l d=d:=if_neg q;rw[e,e]
def lx (Vs:List VC) (d:D):Nat:=Vs.findIdx fun v=>decide (d∈v.2.1.2.2.2)
def bF (Vs:List VC):Nat:=(Vs.filter fun v=>decide (v.2.1.2.2.2=[])).length
def uf (Vs:List VC) (e:EC):Nat × Nat:=(lx Vs (e.1.1,e.1.2,0),lx Vs (e.1.1,e.1.2,1))
def EK (Vs:List VC) (Es:List EC) (k:Nat):List Int:=Cu ((Es.take k).map (uf Vs)) (lL Vs.length)
section
variable {Vs:List VC} {Es:List EC}
theorem tC {d:D} (hd:d∈ao Vs):∃v,Vs[lx Vs d]? =ζ v∧d∈v.2.1.2.2.2:=by
 obtain⟨v,hv,hr⟩:=cL.1 hd;have hl:lx Vs d<Vs.length:=List.findIdx_lt_length_of_exists ⟨v,hv,decide_eq_true hr⟩;exact⟨Vs[lx Vs d],θ hl,of_decide_eq_true (List.findIdx_getElem (xs:=Vs) (p:=fun v:VC=>decide (d∈v.2.1.2.2.2)) (w:=hl))⟩
theorem l7 {d:D} (hd:d∈ao Vs):lx Vs d<Vs.length:=by
 obtain⟨v,hv,_⟩:=tC hd;exact(ν.1 hv).1
theorem xE:∀{Vs:List VC},(ao Vs).Nodup→∀{i k:Nat} {u v:VC} {d:D},Vs[i]? =ζ u→Vs[k]? =ζ v→d∈u.2.1.2.2.2→d∈v.2.1.2.2.2→i=k
 |[],_,i,k,u,v,d,hu,_,_,_=>by simp at hu
 |x::r,hn,i,k,u,v,d,hu,hv,h1,h2=>by
  rw[eA,JaL] at hn;cases i with
  |zero=>
   cases k with
   |zero=>rfl
   |succ k=>
    have e:x=u:=by simpa using hu
    have MA:r[k]? =ζ v:=by simpa using hv
    exact(hn.2.2 d (e▸h1) d (cL.2 ⟨v,ω MA,h2⟩) rfl).elim
  |succ i=>
   have PJ:r[i]? =ζ u:=by simpa using hu
   cases k with
   |zero=>
    have e:x=v:=by simpa using hv
    exact(hn.2.2 d (e▸h2) d (cL.2 ⟨u,ω PJ,h1⟩) rfl).elim
   |succ k=>
    have MA:r[k]? =ζ v:=by simpa using hv
    rw[xE hn.2.1 PJ MA h1 h2]
theorem AX (hn:(ao Vs).Nodup) {i:Nat} {v:VC} {d:D} (hv:Vs[i]? =ζ v) (hd:d∈v.2.1.2.2.2):lx Vs d=i:=by
 obtain⟨u,hu,h2⟩:=tC (cL.2 ⟨v,ω hv,hd⟩);exact xE hn hu hv h2 hd
theorem LG (hn:(ao Vs).Nodup) {d:D} (hd:d∈ao Vs):lx Vs (iO Vs d)=lx Vs d:=by
 obtain⟨v,hv,hr⟩:=tC hd;refine AX hn hv ?_;rw[ic hn (ω hv) hr];exact jQ hr
theorem pZ (h:aG Vs Es) (l:List I2) {d:D} (hd:d∈ao Vs):qf l d∈ao Vs:=by
 unfold qf;split
 ·exact h.oth hd
 ·exact hd
theorem sS (h:aG Vs Es) (l:List I2):Pm (om Vs l) (ao Vs):=
 ⟨h.once,fun x hx=>(wX h.once).cl _ (pZ h l hx),fun x hx y hy e=>by
  have:=(wX h.once).inj _ (pZ h l hx) _ (pZ h l hy) e
  rw[←Bo l x,this,Bo]⟩
theorem L4 (h:aG Vs Es) {d:D} (hd:d∈ao Vs):om Vs (Es.map (·.1)) d=fQ Vs d:=by
 obtain⟨e,he,e1,_⟩:=(h.mem d).1 hd
 have:qf (Es.map (·.1)) d=dw d:=if_pos (Α.2 ⟨e,he,e1⟩)
 rw[om,this];rfl
theorem aG.ends (h:aG Vs Es) {e:EC} (he:e∈Es):(e.1.1,e.1.2,(0:Int))∈ao Vs∧(e.1.1,e.1.2,(1:Int))∈ao Vs:=
 ⟨(h.mem _).2 ⟨e,he,rfl,.inl rfl⟩,(h.mem _).2 ⟨e,he,rfl,.inr rfl⟩⟩
theorem DT (h:aG Vs Es) (k:Nat):∀e∈(Es.take k).map (uf Vs),e.1<Vs.length∧e.2<Vs.length:=fun p hp=>by
 obtain⟨e,he,rfl⟩:=Α.1 hp;obtain⟨h1,h2⟩:=h.ends (List.mem_of_mem_take he);exact⟨l7 h1,l7 h2⟩
theorem rZ (h:aG Vs Es) (k:Nat):uN Vs.length (fun i j=>False∨(i,j)∈(Es.take k).map (uf Vs)) (EK Vs Es k):=tt _ _ _ (DT h k) (uN.up Vs.length)
theorem Mo (h:aG Vs Es) (k:Nat) {d:D} (hd:d∈ao Vs):(EK Vs Es k).getD (lx Vs (om Vs ((Es.take k).map (·.1)) d)) 0=(EK Vs Es k).getD (lx Vs d) 0:=by
 rw[om,LG h.once (pZ h _ hd)];unfold qf;split
 ·rename_i q;obtain⟨e,he,e1⟩:=Α.1 q;have hm:uf Vs e∈(Es.take k).map (uf Vs):=Α.2 ⟨e,he,rfl⟩;obtain⟨h1,h2⟩:=DT h k _ hm;have hc:=(rZ h k).co (uf Vs e).1 (uf Vs e).2 h1 h2 (.inr hm);obtain⟨_,_,_,hs⟩:=(h.mem d).1 hd;obtain⟨a,b,c⟩:=d;simp only at hs e1;have ea:(uf Vs e).1=lx Vs (a,b,0):=by show lx Vs (e.1.1,e.1.2,0)=_;rw[e1]
  have eb:(uf Vs e).2=lx Vs (a,b,1):=by show lx Vs (e.1.1,e.1.2,1)=_;rw[e1]
  simp only[ea,eb] at hc;rcases hs with rfl|rfl
  ·exact hc.symm
  ·exact hc
 ·rfl
theorem NV (h:aG Vs Es) (k:Nat) {x y:D} (hx:x∈ao Vs) (r:Rl (om Vs ((Es.take k).map (·.1))) x y):(EK Vs Es k).getD (lx Vs y) 0=(EK Vs Es k).getD (lx Vs x) 0:=by
 obtain⟨i,rfl⟩:=r
 induction i with
 |zero=>rfl
 |succ i ih=>rw[dp,Mo h k ((sS h _).it hx i),ih]
theorem Cx (hn:(ao Vs).Nodup) {v:VC} (hv:v∈Vs):∀i,i<v.2.1.2.2.2.length→fR (iO Vs) i (v.2.1.2.2.2.getD 0 (0,0,0))=v.2.1.2.2.2.getD i (0,0,0)
 |0,_=>rfl
 |i+1,hi=>by
  have hm:v.2.1.2.2.2.getD i (0,0,0)∈v.2.1.2.2.2:=by
   rw[χ,θ (by omega)];exact Jbs _
  have hnr:=lu hn hv;rw[dp,Cx hn hv i (by omega),ic hn hv hm];have e:v.2.1.2.2.2.getD i (0,0,0)=v.2.1.2.2.2[i]'(by omega):=by rw[χ,θ (by omega)];rfl
  rw[ee,e,hnr.idxOf_getElem i (by omega),JbE hi]
theorem YI (hn:(ao Vs).Nodup) {v:VC} (hv:v∈Vs) {x y:D} (hx:x∈v.2.1.2.2.2) (r:Rl (iO Vs) x y):y∈v.2.1.2.2.2:=by
 obtain⟨i,rfl⟩:=r
 induction i with
 |zero=>exact hx
 |succ i ih=>
  rw[dp,ic hn hv ih];exact jQ ih
def JN (Vs:List VC):List D:=(Vs.filter fun v=>!decide (v.2.1.2.2.2=[])).map fun v=>v.2.1.2.2.2.getD 0 (0,0,0)
theorem xy {v:VC} (hv:v.2.1.2.2.2≠[]):v.2.1.2.2.2.getD 0 (0,0,0)∈v.2.1.2.2.2:=by
 cases hR:v.2.1.2.2.2 with
 |nil=>exact absurd hR hv
 |cons a r=>exact Jai ..
theorem QR (hn:(ao Vs).Nodup):jW (iO Vs) (ao Vs) (JN Vs):=by
 have eE:∀{d},d∈JN Vs→∃v∈Vs,v.2.1.2.2.2≠[]∧v.2.1.2.2.2.getD 0 (0,0,0)=d:=fun {d} hd=>by
  obtain⟨v,hv,rfl⟩:=Α.1 hd;obtain⟨h1,h2⟩:=JaC.1 hv;exact⟨v,h1,by simpa using h2,rfl⟩
 refine⟨?_,fun p hp=>?_,fun x hx=>?_,fun p hp q hq r=>?_⟩
 ·clear eE
  induction Vs with
  |nil=>exact List.nodup_nil
  |cons v r ih=>
   have FZ:=hn;rw[eA,JaL] at hn;unfold JN
   by_cases q:v.2.1.2.2.2=[]
   ·rw[Jbm,if_neg (by simp[q])];exact ih hn.2.1
   ·rw[Jbm,if_pos (by simp[q]),ι,JaJ]
    refine⟨fun hm=>?_,ih hn.2.1⟩
    obtain⟨u,hu,e⟩:=Α.1 hm;obtain⟨h1,h2⟩:=JaC.1 hu;have hu0:u.2.1.2.2.2≠[]:=by simpa using h2
    exact hn.2.2 _ (xy q) _ (cL.2 ⟨u,h1,xy hu0⟩) e.symm
 ·obtain⟨v,hv,h0,rfl⟩:=eE hp;exact cL.2 ⟨v,hv,xy h0⟩
 ·obtain⟨v,hv,hr⟩:=cL.1 hx;have h0:v.2.1.2.2.2≠[]:=fun e=>by rw[e] at hr;cases hr
  refine⟨_,Α.2 ⟨v,JaC.2 ⟨hv,by simp[h0]⟩,rfl⟩,?_⟩
  obtain⟨i,hi,e⟩:=Jbv hr;exact⟨i,by rw[Cx hn hv i hi,χ,θ hi];exact e⟩
 ·obtain⟨v,hv,h0,rfl⟩:=eE hp;obtain⟨u,hu,h1,rfl⟩:=eE hq;have h2:=YI hn hv (xy h0) r;obtain⟨i,hi,ei⟩:=Jbv hv;obtain⟨k,hk,ek⟩:=Jbv hu
  have:=xE hn (i:=i) (k:=k) (by rw[θ hi,ei]) (by rw[θ hk,ek]) h2 (xy h1)
  subst this;rw[←ei,←ek]
theorem RE (Vs:List VC):(JN Vs).length+bF Vs=Vs.length:=by
 unfold JN bF;rw[Ρ]
 induction Vs with
 |nil=>rfl
 |cons v r ih=>
  by_cases q:v.2.1.2.2.2=[]
  ·simp[Jbm,q] at ih ⊢;omega
  ·simp[Jbm,q] at ih ⊢;omega
theorem tl (h:aG Vs Es):∀k,k≤Es.length→∃P t,jW (om Vs ((Es.take k).map (·.1))) (ao Vs) P∧2*fg (EK Vs Es k)+k=Vs.length+P.length+bF Vs+2*t
 |0,_=>by
  refine⟨JN Vs,0,?_,?_⟩
  ·have e:om Vs ((Es.take 0).map (·.1))=iO Vs:=by
    funext d
    rw[om,show qf ((Es.take 0).map (·.1)) d=d from if_neg (by simp)]
   rw[e];exact QR h.once
  ·show 2*fg (lL Vs.length)+0=_;rw[Wd]
   have:=RE Vs
   omega
 |k+1,hk=>by
  obtain⟨P,t,hP,hE⟩:=tl h k (by omega);have vT:k<Es.length:=by omega
  obtain⟨e,ge⟩:=aB (Es[k]);have he:e∈Es:=ge▸Jbs vT;have et:Es.take (k+1)=Es.take k++[e]:=by rw[JaQ vT,ge]
  have kZ:(e.1.1,e.1.2)∉(Es.take k).map (·.1):=fun hm=>by
   have AK:=dh h.re;rw[List.map_take] at hm;obtain⟨i,hi,ei⟩:=Jbv hm;rw[JaA,Ρ] at hi;rw[List.getElem_take] at ei;have e2:(Es.map (·.1))[k]'(by simpa using vT)=e.1:=by rw[List.getElem_map,ge]
   have:=(List.getElem_inj AK).1 (ei.trans e2.symm)
   omega
  obtain⟨m0,m1⟩:=h.ends he;have hp0:=l7 m0;have R2:=l7 m1;have el:((Es.take (k+1)).map (·.1))=(Es.take k).map (·.1)++[e.1]:=by rw[et,JaU];rfl
  have a1:∀s,qf ((Es.take (k+1)).map (·.1)) (e.1.1,e.1.2,s)=dw (e.1.1,e.1.2,s):=fun s=>if_pos (by rw[el];exact Jan.2 (.inr (Jao.2 rfl)))
  have a2:∀s,qf ((Es.take k).map (·.1)) (e.1.1,e.1.2,s)=(e.1.1,e.1.2,s):=fun s=>if_neg kZ
  have bj:((e.1.1,e.1.2,0):D)≠(e.1.1,e.1.2,1):=fun q=>by simp at q
  obtain⟨P',Nh,h1,h2⟩:=zx (sS h ((Es.take k).map (·.1))) (sS h ((Es.take (k+1)).map (·.1))) m0 m1 bj
   (by rw[om,om,a1,a2];rfl) (by rw[om,om,a1,a2];rfl) (fun z hz z0 z1=>by
     have:qf ((Es.take (k+1)).map (·.1)) z=qf ((Es.take k).map (·.1)) z:=by
      unfold qf;rw[el]
      have kK:(z.1,z.2.1)≠e.1:=fun q=>by
       obtain⟨_,_,_,hs⟩:=(h.mem z).1 hz;obtain⟨a,b,c⟩:=z;simp only at hs q;rcases hs with rfl|rfl
       ·exact z0 (by rw[←q])
       ·exact z1 (by rw[←q])
      by_cases q:(z.1,z.2.1)∈(Es.take k).map (·.1)
      ·rw[if_pos q,if_pos (Jan.2 (.inl q))]
      ·rw[if_neg q,if_neg (fun hm=>(Jan.1 hm).elim q (fun hm=>kK (Jao.1 hm)))]
     rw[om,om,this]) hP
  have hL:EK Vs Es (k+1)=cR (EK Vs Es k) ((EK Vs Es k).getD (lx Vs (e.1.1,e.1.2,0)) 0) ((EK Vs Es k).getD (lx Vs (e.1.1,e.1.2,1)) 0):=by
   unfold EK Cu;rw[et,JaU,List.foldl_append];rfl
  have hlen:=(rZ h k).len;have hj:=DN (rZ h k).ok (p:=lx Vs (e.1.1,e.1.2,0)) (q:=lx Vs (e.1.1,e.1.2,1)) (by omega) (by omega);rw[←hL] at hj
  by_cases hr:Rl (om Vs ((Es.take k).map (·.1))) (e.1.1,e.1.2,0) (e.1.1,e.1.2,1)
  ·rw[if_pos (NV h k m0 hr).symm] at hj
   have:=h1 hr
   exact⟨P',t,Nh,by omega⟩
  ·have:=h2 hr
   by_cases hq:(EK Vs Es k).getD (lx Vs (e.1.1,e.1.2,0)) 0=(EK Vs Es k).getD (lx Vs (e.1.1,e.1.2,1)) 0
   ·rw[if_pos hq] at hj;exact⟨P',t+1,Nh,by omega⟩
   ·rw[if_neg hq] at hj;exact⟨P',t,Nh,by omega⟩
theorem zU (h:aG Vs Es):EK Vs Es Es.length=dm Vs:=by
 have h1:=rZ h Es.length
 refine(h1.of_iff (R':=Sh Vs) fun f=>?_).uniq (mz Vs)
 rw[List.take_length];constructor
 ·rintro hc i k hi hk ⟨y,⟨u,hu,d,hd,e1⟩,v,hv,d',vt,e2⟩;obtain⟨e,he,q1,s1⟩:=(h.mem d).1 (cL.2 ⟨u,ω hu,hd⟩);obtain⟨e',Rs,q2,s2⟩:=(h.mem d').1 (cL.2 ⟨v,ω hv,vt⟩);have p1:=AX h.once hu hd;have p2:=AX h.once hv vt;obtain⟨a,b,c⟩:=d;obtain⟨a',b',c'⟩:=d';simp only at q1 q2 s1 s2 e1 e2;rw[e1] at e2;injection e2 with e3 e4
  subst e3 e4;have ZD:=hc (uf Vs e).1 (uf Vs e).2 (l7 (h.ends he).1) (l7 (h.ends he).2) (.inr (Α.2 ⟨e,he,rfl⟩));have ea:(uf Vs e).1=lx Vs (a,b,0):=by show lx Vs (e.1.1,e.1.2,0)=_;rw[q1]
  have eb:(uf Vs e).2=lx Vs (a,b,1):=by show lx Vs (e.1.1,e.1.2,1)=_;rw[q1]
  rw[ea,eb] at ZD;rcases s1 with rfl|rfl<;>rcases s2 with rfl|rfl
  ·rw[←p1,←p2]
  ·rw[←p1,←p2];exact ZD
  ·rw[←p1,←p2];exact ZD.symm
  ·rw[←p1,←p2]
 ·rintro hc i k hi hk (hf|hm)
  ·exact hf.elim
  ·obtain⟨e,he,e1⟩:=Α.1 hm;obtain⟨m0,m1⟩:=h.ends he;obtain⟨u,hu,hd⟩:=tC m0;obtain⟨v,hv,vt⟩:=tC m1;have ei:lx Vs (e.1.1,e.1.2,0)=i:=congrArg Prod.fst e1;have ek:lx Vs (e.1.1,e.1.2,1)=k:=congrArg Prod.snd e1;rw[ei] at hu;rw[ek] at hv;exact hc i k hi hk ⟨(e.1.1,e.1.2),⟨u,hu,_,hd,rfl⟩,v,hv,_,vt,rfl⟩
def kp (Vs:List VC) (Es:List EC):Nat:=(js (fQ Vs) 80 (qt Es) []).length
theorem iK (h:aG Vs Es):∃P,jW (fQ Vs) (ao Vs) P∧kp Vs Es=P.length:=by
 obtain⟨P,hP,e⟩:=IX h.phi h.l80 (qt Es) h.ds;exact⟨P,hP,by rw[kp,e,Ρ]⟩
theorem tj (h:aG Vs Es):∃t,2*fg (dm Vs)+Es.length=Vs.length+(kp Vs Es+bF Vs)+2*t:=by
 obtain⟨P,t,hP,e⟩:=tl h Es.length (Δ _);rw[zU h,List.take_length] at*;obtain⟨Q,hQ,eQ⟩:=iK h;have hc:=hP.congr (sS h _) (fun x hx=>L4 h hx)
 have:=hc.len h.phi hQ
 exact⟨t,by omega⟩
end
section
open Go.RowKit Go.Shelf Go.Lib Go.Sort
def J3 (w w':ο):Prop:=∃q os,w'=grow (w.drewN q) os
def OD (k:FuncId) (args:Array ψ) (v:ψ):Prop:=∀w:ο,Ζ η k args w fun e w'=>e=.returned v∧J3 w w'
theorem NW (w:ο) (o o':Obj):J3 w ((w.alloc o).alloc o'):=⟨0,_,by rw[alloc_eq_grow,alloc_eq_grow,grow_grow];rfl⟩
theorem J3.below {w w':ο} (h:J3 w w'):σ w.heap.size w w':=by
 obtain⟨q,os,rfl⟩:=h
 refine⟨rfl,rfl,rfl,?_,fun k hk=>?_⟩
 ·simp[grow,World.drewN]
 ·simp[grow,World.drewN,Array.getElem?_append,hk]
theorem zG {w w':ο} {o o':Obj} (h:J3 ((w.alloc o).alloc o') w'):J3 w w':=by
 obtain⟨q,os,rfl⟩:=h
 refine⟨q,(#[o]++#[o'])++os,?_⟩
 rw[alloc_eq_grow,alloc_eq_grow,grow_grow,show(grow w (#[o]++#[o'])).drewN q=grow (w.drewN q) (#[o]++#[o']) from rfl,grow_grow]
theorem Ai (s n:Int) (w:ο):
 Ζ η 137 #[φ #[J s,J n],φ #[J s,J n]] w fun e w'=>e=.returned (J 0)∧J3 w w':=by
 go_enter Tryz.func137,Tryz.ntmps137;go_wp2;go_ret;exact⟨rfl,NW _ _ _⟩
theorem uY (s n s' n':Int) (w:ο) (h:s<s'):
 Ζ η 137 #[φ #[J s,J n],φ #[J s',J n']] w fun e w'=>e=.returned (J (-1))∧J3 w w':=by
 have h1:(s==s')=ρ:=by simp;omega
 have h2:(s !=s')=τ:=by simp;omega
 go_enter Tryz.func137,Tryz.ntmps137;go_wp2;go_ret;exact⟨rfl,NW _ _ _⟩
theorem uZ (s n s' n':Int) (w:ο) (h:s'<s):
 Ζ η 137 #[φ #[J s,J n],φ #[J s',J n']] w fun e w'=>e=.returned (J 1)∧J3 w w':=by
 have h1:(s==s')=ρ:=by simp;omega
 have h2:(s !=s')=τ:=by simp;omega
 have h3:¬s<s':=by omega
 go_enter Tryz.func137,Tryz.ntmps137;go_wp2;go_ret;exact⟨rfl,NW _ _ _⟩
theorem AD (s n n':Int) (w:ο) (h:n<n'):
 Ζ η 137 #[φ #[J s,J n],φ #[J s,J n']] w fun e w'=>e=.returned (J (-1))∧J3 w w':=by
 have h1:(n==n')=ρ:=by simp;omega
 go_enter Tryz.func137,Tryz.ntmps137;go_wp2;go_ret;exact⟨rfl,NW _ _ _⟩
theorem Bf (s n n':Int) (w:ο) (h:n'<n):
 Ζ η 137 #[φ #[J s,J n],φ #[J s,J n']] w fun e w'=>e=.returned (J 1)∧J3 w w':=by
 have h1:(n==n')=ρ:=by simp;omega
 have h3:¬n<n':=by omega
 go_enter Tryz.func137,Tryz.ntmps137;go_wp2;go_ret;exact⟨rfl,NW _ _ _⟩
theorem Dx (s n s' n':Int):OD 137 #[φ #[J s,J n],φ #[J s',J n']] (J (jz s n s' n')):=fun w=>by
 unfold jz qj
 by_cases e:s=s'
 ·subst e;rw[if_pos rfl]
  by_cases h1:n<n'
  ·rw[if_pos h1];exact AD s n n' w h1
  ·rw[if_neg h1]
   by_cases h2:n'<n
   ·rw[if_pos h2];exact Bf s n n' w h2
   ·rw[if_neg h2];obtain rfl:n=n':=by omega
    exact Ai s n w
 ·rw[if_neg e]
  by_cases h1:s<s'
  ·rw[if_pos h1];exact uY s n s' n' w h1
  ·rw[if_neg h1,if_pos (by omega)];exact uZ s n s' n' w (by omega)
theorem tQ (s n c s' n' c':Int) (w:ο) (h:¬(s=s'∧n=n')):
 Ζ η 167 #[φ #[J s,J n,J c],φ #[J s',J n',J c']] w fun e w'=>e=.returned (J (jz s n s' n'))∧J3 w w':=by
 have hm:=qh (Dx s n s' n')
 by_cases h0:s=s'
 ·subst h0;have h1:(n==n')=ρ:=by simpa using fun e=>h ⟨rfl,e⟩
  clear h;go_enter Tryz.func167,Tryz.ntmps167;go_wp2_with (first|(go_at_call 137;refine(hm.out _).mono ?_;rintro e w' ⟨rfl,hb⟩;obtain⟨hc,hf⟩:=ew hb.below))
  go_ret;exact⟨rfl,zG hb⟩
 ·have h1:(s==s')=ρ:=by simpa using h0
  clear h;go_enter Tryz.func167,Tryz.ntmps167;go_wp2_with (first|(go_at_call 137;refine(hm.out _).mono ?_;rintro e w' ⟨rfl,hb⟩;obtain⟨hc,hf⟩:=ew hb.below))
  go_ret;exact⟨rfl,zG hb⟩
theorem te (s n c c':Int) (w:ο):
 Ζ η 167 #[φ #[J s,J n,J c],φ #[J s,J n,J c']] w fun e w'=>e=.returned (J (qj c c'))∧J3 w w':=by
 unfold qj
 by_cases h1:c<c'
 ·rw[if_pos h1];go_enter Tryz.func167,Tryz.ntmps167;go_wp2;go_ret;exact⟨rfl,NW _ _ _⟩
 ·rw[if_neg h1]
  by_cases h2:c'<c
  ·rw[if_pos h2];go_enter Tryz.func167,Tryz.ntmps167;go_wp2;go_ret;exact⟨rfl,NW _ _ _⟩
  ·rw[if_neg h2];go_enter Tryz.func167,Tryz.ntmps167;go_wp2;go_ret;exact⟨rfl,NW _ _ _⟩
theorem uX (s n c s' n' c':Int):OD 167 #[φ #[J s,J n,J c],φ #[J s',J n',J c']] (J (jS s n c s' n' c')):=fun w=>by
 unfold jS
 by_cases h:s=s'∧n=n'
 ·rw[if_pos h];obtain⟨rfl,rfl⟩:=h;exact te s n c c' w
 ·rw[if_neg h];exact tQ s n c s' n' c' w h
end
section
open Go.RowKit Go.Shelf Go.Lib Go.Sort
def lf (x:D):List ψ:=[J x.1,J x.2.1,J x.2.2]
def uK (x y:D):Int:=jS x.1 x.2.1 x.2.2 y.1 y.2.1 y.2.2
theorem Zx (x y:D):ltOf uK x y=decide (uK x y<0):=rfl
theorem lU (x y:D):uK y x= - uK x y:=wK _ _ _ _ _ _
theorem oX (x y:D):uK x y=0↔x=y:=by
 unfold uK;rw[pM];obtain⟨a,b,c⟩:=x;obtain⟨d,e,f⟩:=y;simp
theorem tG (x y z:D) (h:uK x y≤0) (k:uK y z≤0):uK x z≤0:=ru _ _ _ _ _ _ _ _ _ h k
theorem afo:SWO (ltOf uK) where
 irrefl x:=by
  rw[Zx]
  have:=(oX x x).2 rfl
  simp;omega
 trans x y z h1 h2:=by
  rw[Zx] at*;simp at*;have a1:=tG x y z (by omega) (by omega);rcases Int.lt_or_eq_of_le a1 with q|q
  ·exact q
  ·exfalso;obtain rfl:=(oX x z).1 q
   have:=lU x y
   omega
 ntrans x y z h1 h2:=by
  rw[Zx] at*;simp at*;have n1:=lU x y;have n2:=lU y z;have n3:=lU x z;have a1:=tG z y x (by omega) (by omega);omega
theorem agS (x y:D) (h1:ltOf uK x y=ρ) (h2:ltOf uK y x=ρ):x=y:=by
 rw[Zx] at*;simp at*
 have:=lU x y
 exact(oX x y).1 (by omega)
def sortD (L:List D):List D:=L.mergeSort fun x y=>!(ltOf uK) y x
theorem yL (d:Array D) (t:Nat) (h:t<d.size*3):(aA d.toList)[t]? =ζ ((lf d[t / 3]!)[t % 3]!):=by
 have hk:t / 3<d.toList.length:=by simp;omega
 obtain⟨g0,g1,g2⟩:=qX d.toList (t / 3) hk
 have e:d.toList.getD (t / 3) (0,0,0)=d[t / 3]! :=by
  have h2:t / 3<d.size:=by simpa using hk
  rw[χ,getElem!_pos d _ h2];simp[h2]
 rw[e] at g0 g1 g2;have hr:t % 3=0∨t % 3=1∨t % 3=2:=by omega
 rcases hr with hr|hr|hr
 ·rw[hr,show t=t / 3*3 from by omega,show t / 3*3 / 3=t / 3 from by omega];exact g0
 ·rw[hr]
  have:t=t / 3*3+1:=by omega
  rw[show(aA d.toList)[t]? =(aA d.toList)[t / 3*3+1]? from by rw[←this]];exact g1
 ·rw[hr]
  have:t=t / 3*3+2:=by omega
  rw[show(aA d.toList)[t]? =(aA d.toList)[t / 3*3+2]? from by rw[←this]];exact g2
theorem yJ {W:ο} {lo n c g:Nat} (d:Array D) (h:W.ownsRow lo 32 3 (γ (ζ ⟨g,0,ε⟩) n c) n (aA d.toList)):HoldsK lf 3 W g 0 d:=by
 intro j hj;have hj':j<d.size*3:=by simpa using hj
 rw[get_flatK lf 3 d j hj',JaI];have h1:=h.cells (g:=g) rfl j _ (yL d j hj');rw[Ν,JaI] at h1
 refine⟨h1,?_⟩
 rcases h.2 with⟨q,_⟩|⟨g',cap,cur,q1,q2,q3,q4⟩
 ·cases q
 ·cases q1;simp[World.frozen?,q3]
theorem Fi {W:ο} {lo n c g m:Nat} (d d':Array D) (os:Array Obj) (h:W.ownsRow lo 32 3 (γ (ζ ⟨g,0,ε⟩) n c) n (aA d.toList)) (hs:d'.size=d.size):
 (sortWorldK lf 3 W g 0 m d' os).ownsRow lo 32 3 (γ (ζ ⟨g,0,ε⟩) n c) n (aA d'.toList)∧W.grownBy (sortWorldK lf 3 W g 0 m d' os) (ζ g):=by
 have hH:=yJ d h;have dz:=(h.lt g rfl).2;have hl:=h.1;rw[dj,Array.length_toList] at hl
 have tF:W.grownBy (sortWorldK lf 3 W g 0 m d' os) (ζ g):=by
  refine⟨rfl,rfl,rfl,?_,fun k hk bj=>?_⟩
  ·simp[sortWorldK,putRowK,putRow,mapBlock,grow,ahead]
  ·have hkg:k≠g:=fun e=>bj (by rw[e])
   show((W.heap.modify g (onCells (putCells id 0 (flatK lf 3 d'))))++os)[k]? =W.heap[k]?
   rw[Array.getElem?_append_left (by simpa using hk),Array.getElem?_modify,if_neg (Ne.symm hkg)]
 refine⟨?_,tF⟩
 refine⟨by rw[dj,Array.length_toList,hs];exact hl,.inr ?_⟩
 rcases h.2 with⟨q,_⟩|⟨g',cap,cur,q1,q2,q3,q4,q5,q6,q7⟩
 ·cases q
 cases q1
 refine⟨g,c,putCells id 0 (flatK lf 3 d') cur,rfl,q2,?_,q4,q5,by simp[putCells,q6],?_⟩
 ·show((W.heap.modify g (onCells (putCells id 0 (flatK lf 3 d'))))++os)[g]? =_
  rw[Array.getElem?_append_left (by simpa using dz),Array.getElem?_modify,if_pos rfl,q3];rfl
 ·apply List.ext_getElem?;intro t
  by_cases ht:t<n*3
  ·have Wh:t<d'.size*3:=by omega
   rw[yL d' t Wh,List.getElem?_take,if_pos ht];have Xp:t<cur.size:=by rw[q6];have:=Nat.mul_le_mul_right 3 q4;omega
   have hg:=get_flatK lf 3 d' t Wh;rw[getElem!_pos _ t (by simpa using Wh)] at hg;simp[putCells,Xp,Wh];simpa using hg
  ·rw[List.getElem?_eq_none (by simp;omega),List.getElem?_eq_none (by rw[dj,Array.length_toList];omega)]
theorem Jq (L:List D) (lo n c:Nat) (A:Option Κ) (W:ο) (h:W.ownsRow lo 32 3 (γ A n c) n (aA L)) (hn:n<4611686018427387904):
 Ζ η 186 #[γ A n c,.func (.func 167) #[] #[]] W fun e w'=>e=.returned (Ξ #[])∧w'.ownsRow lo 32 3 (γ A n c) n (aA (sortD L))∧W.grownBy w' (Ο A n c).ownBlock:=by
 have hl:=h.1;rw[dj] at hl;have h2:=h.2;rcases h2 with⟨q,FZ⟩|⟨g,cap,cur,q1,q2,q3,q4,q5,q6,q7⟩
 ·cases q;have hL:L=[]:=List.eq_nil_of_length_eq_zero (by omega);subst hL
  refine(AnyF.slices_SortFunc_none Tryz.sortD ε 0 _ W).mono ?_
  rintro e w' ⟨rfl,rfl⟩;exact⟨rfl,(by first|exact h|simpa [sortD] using h),World.grownBy.refl _ _⟩
 ·injection q1 with e1 e2 e3
  subst e1;have fU:L.toArray.size=n:=by simp;omega
  have Zy:=AnyQ.slices_SortFunc_total Tryz.sortD 3 Tryz.isAgg32 Tryz.sizeOf32 lf (fun _=>rfl) (fun x v hv=>by simp[lf] at hv;rcases hv with rfl|rfl|rfl<;>rfl) uK afo 167 #[] g 0 c L.toArray W
   (enters_of Tryz.func167 (by kernel_rfl) rfl) (fun m os dk _ x y=>by obtain⟨a,b,e⟩:=x;obtain⟨a2,b2,e2⟩:=y;exact uX a b e a2 b2 e2 _) (yJ L.toArray h) (h.lt g rfl).2 (by rw[fU];exact hn) agS
  rw[fU] at Zy;refine Zy.mono ?_;rintro e w' ⟨rfl,m,os,rfl⟩;obtain⟨r1,r2⟩:=Fi (m:=m) L.toArray (sortD L).toArray os h (by simp[sortD]);exact⟨rfl,r1,r2⟩
end
def qg (L:List VC):List D:=L.flatMap (·.2.1.2.2.2)
theorem Lr (L:List VC) (j:Nat) (x:VC) (h:L[j]? =ζ x):qg (L.take (j+1))=qg (L.take j)++x.2.1.2.2.2:=by
 unfold qg;rw[Jbc,h,List.flatMap_append];simp
theorem Iq (L:List VC) (h:∀x∈L,x.2.1.2.2.2.length≤1000000):(qg L).length≤L.length*1000000:=by
 induction L with
 |nil=>simp[qg]
 |cons v L ih=>
  have h1:=h v (Jai ..);have h2:=ih (fun x hx=>h x (Jad _ hx));unfold qg at*;rw[Jby,Ε,JaH];omega
theorem IV (A:Option Κ) (n c:Nat) (Vs:List VC) (B:Option Κ) (m k:Nat) (Es:List EC) (w:ο) (h:bz w A n c Vs B m k Es) (hn:n≤1000000) (hr:∀x∈Vs,x.2.1.2.1≤1000000):
 Ζ η 182 #[φ #[γ A n c,γ B m k]] w fun e w'=>∃A' c',e=.returned (.slice A' (qg Vs).length c')∧w'.ownsRow (w.heap.size+1) 32 3 (.slice A' (qg Vs).length c') (qg Vs).length (aA (sortD (qg Vs)))∧σ w.heap.size w w':=by
 have HV:=qh h.v;have sw:=qh h.r;have oG:=qh (h.v.rlen aS (by decide));have AL:=qh hr;obtain⟨i0,hi,qJ,ly,kK⟩:=aW ju;clear h hr;go_enter Tryz.func182,Tryz.ntmps182;go_upto_region 2 with fail
 obtain⟨W0,b0,bO,bp,aQ,bw,mQ,lZ,oa⟩:=yj w 25 [γ A n c,γ B m k];rw[bO,bp];clear bO bp;have PC:Hid (Ow w (b0+1) 32 3 (γ ε 0 0) (qg (Vs.take 0)).length (aA (qg (Vs.take 0))) W0):=qh (Ow.nil_ bw.out (by have:=lZ.out;omega) (by have:=mQ.out;have:=lZ.out;omega));have c0:=aQ.out.cell (i:=0) rfl;have HGb:=lZ;go_wp2;clear c0;go_loopw [3,9] (fun v si wr=>∃j:Nat,j≤n∧si=J j∧Hid (Ow w (b0+1) 32 3 v (qg (Vs.take j)).length (aA (qg (Vs.take j))) wr)) (fun _ si _=>n - (intOf si).toNat)
 case atStart=>exact⟨0,by omega,rfl,PC⟩
 case round=>
  clear PC;obtain⟨j,hj,rfl,HO⟩:=hrel;obtain⟨wo,cS⟩:=aB wr;rw[cS] at HO ⊢;clear cS
  by_cases nT:j<n
  ·obtain⟨v,hx⟩:∃v,Vs[j]? =ζ v:=⟨_,θ (by have:=oG.out;omega)⟩
   have tR:=Lr Vs j v hx;have xM:=ω hx;have uH:=sw.out v xM;have kc:=AL.out v xM
   have Po:(qg (Vs.take j)).length≤j*1000000:=by
    have q:=Iq (Vs.take j) (fun x hx=>by have q1:=AL.out x (List.mem_of_mem_take hx);have q2:=(sw.out x (List.mem_of_mem_take hx)).2.dlen;omega);rw[JaA] at q;exact Nat.le_trans q (Nat.mul_le_mul_right _ (Nat.min_le_left _ _))
   obtain⟨bb,off,rfl,aY,a8⟩:=HV.out.place aS (by decide) (by omega);have ER:Hid (σ w.heap.size w wo):=qh HO.out.below;have bC:=ER.out;have q0:=a8 j _ hx 0 _ rfl;have q1:=a8 j _ hx 1 _ rfl;have q2:=a8 j _ hx 2 _ rfl;have q3:=a8 j _ hx 3 _ rfl;have q4:=a8 j _ hx 4 _ rfl;simp only[Ν,Jac] at q0 q1 q2 q3 q4;have l0:=(bC.cell (p:=⟨bb,off+j*5,ε⟩) aY).trans q0;have l1:=(bC.cell (p:=⟨bb,off+j*5+1,ε⟩) aY).trans q1;have l2:=(bC.cell (p:=⟨bb,off+j*5+2,ε⟩) aY).trans q2;have l3:=(bC.cell (p:=⟨bb,off+j*5+3,ε⟩) aY).trans q3;have l4:=(bC.cell (p:=⟨bb,off+j*5+4,ε⟩) aY).trans q4;clear bC q0 q1 q2 q3 q4;obtain⟨⟨i1,i2⟩,⟨rA,rn,rc,rL⟩,lb,at_⟩:=v;replace kc:rn≤1000000:=kc;have HR:Hid (bg w w.heap.size 3 rA rn rc (aA rL)):=qh uH.2;have Ea:rL.length=rn:=HR.out.dlen;have eh:=qh tR;have SL:(qg (Vs.take (j+1))).length=(qg (Vs.take j)).length+rn:=by rw[tR,Ε];show _+rL.length=_;rw[Ea]
   have K4:=qh SL;have HL1:=qh Ea;obtain⟨s,gs⟩:=aB ((qg (Vs.take j)).length);rw[gs] at HO Po K4;clear hx a8 aY tR SL gs uH Ea
   go_wp2_with (first
    |(at_builtin
      refine cC rfl (.tmp 13) (.tmp 15) _ rfl _ 32 i0 _ 3 24 Tryz.underlying57 hi qJ ly kK rfl (by decide) _ _ _ rfl (by exact HO.out.up (az _ _)) w.heap.size rA rn rc (aA rL) rfl (by exact(HR.out.up (aI ER.out _) (Δ _))) (im rL) (by unfold maxLen;omega) (by omega) ?_;intro v1 w1 fh cP tF
      have nb:Hid (Ow w (b0+1) 32 3 v1 (qg (Vs.take (j+1))).length (aA (qg (Vs.take (j+1)))) w1):=qh (by
       rw[K4.out,eh.out,fM];exact fh)
      clear fh cP tF))
   go_roundw
   case rel=>exact⟨j+1,by omega,by go_num,nb⟩
   case measure=>simp[intOf]<;>omega
  ·obtain rfl:n=j:=by omega
   have ho:=HO.out;rw[List.take_of_length_le (by have:=oG.out;omega)] at ho
   have Po:(qg Vs).length≤n*1000000:=by
    have q:=Iq Vs (fun x hx=>by have q1:=AL.out x hx;have q2:=(sw.out x hx).2.dlen;omega);rw[oG.out] at q;exact q
   obtain⟨A',c',rfl,-⟩:=ho.rds;have HSo:=qh (Jq (qg Vs) _ _ _ A' wo ho.own (by omega));have ER:=qh ho.below;have dz:=ho.own.lt;have KU:Hid (∀g,(Ο A' (qg Vs).length c').ownBlock=ζ g→w.heap.size≤g):=qh (fun g e=>by have:=(dz g e).1;have:=lZ.out;omega);have AT:Hid (b0+1=w.heap.size+1):=qh (by rw[←lZ.out]);clear HO ho dz;go_wp2_with (go_at_call 186;refine HSo.out.mono ?_;rintro e w' ⟨rfl,h1,h2⟩;have H1:=qh h1;have H2:=qh h2;clear h1 h2)
   go_ret;exact⟨A',c',rfl,by rw[←AT.out];exact H1.out,ER.out.grown H2.out ER.out.size (fun g e=>KU.out g e)⟩
theorem Qn (j:Nat):lL (j+1)=lL j++[(j:Int)]:=by simp[lL,List.range_succ]
theorem Jp:(η.info? 3).map (fun i=>(i.zero,i.size,i.bytes))=ζ (ζ (J 0),1,8):=by kernel_rfl
theorem RowsIn.push {P:Program} {α:Type} {W:ο} {lo:Nat} {UR UE:Υ} {s:Nat} {f:α→List ψ} {A:Option Κ} {n c:Nat} {X:List (Rw α)} (h:RowsIn W lo UR UE s f A n c X) (x:Rw α) (hx:W.ownsRow lo UE s (kX x) x.2.2.length (ah f x.2.2)) (hd:∀y∈X,∀a b,y.1=ζ a→x.1=ζ b→a.block≠b.block)
 (t ty:Υ) (i:TypeInfo) (z:ψ) (ht:P.underlying t=ζ (.slice UR)) (hi:P.info? UR=ζ i) (hz:i.zero=ζ z) (fK:i.size=1) (vA:i.bytes=24) (vK:z.cells.size=1)
 (hT:UR≠UE) (hn:n≤1000000) (fw:lo≤W.heap.size) (A1:Option Κ) (c1:Nat) (hr:bg W W.heap.size 1 A1 1 c1 [kX x]):
 ∃A' c' W',(Builtin.append_ #[t,t] ty #[γ A n c,γ A1 1 c1]).run P W=.ok (γ A' (n+1) c') W'∧RowsIn W' lo UR UE s f A' (n+1) c' (X++[x])∧σ lo W W'∧W.grownBy W' (Ο A n c).ownBlock:=by
 obtain⟨a1,rfl⟩:∃a1,A1=ζ a1:=by
  cases A1 with
  |none=>have:=(hr.none_ rfl).1;omega
  |some a1=>exact⟨a1,rfl⟩
 obtain⟨v',W2,bV,gh,hg,FZ,hb⟩:=run_append_own_at (P:=P) W lo t ty UR i z 1 24 ht hi hz fK vA vK (by decide) _ n _ h.row a1 1 c1 _ hr.len (hr.cell a1 rfl) (by simp[kX,Τ]) (by unfold maxLen;omega) (by omega) fw;have hk:∀k,(Ο A n c).ownBlock=ζ k→lo≤k:=fun k hk=>(h.row.lt k hk).1
 obtain⟨A',c',rfl,_⟩:=bg.of_own gh;have e:ah Uw X++[kX x]=ah Uw (X++[x]):=by rw[bY];rfl
 rw[e] at gh
 have keep:∀y:Rw α,W.ownsRow lo UE s (kX y) y.2.2.length (ah f y.2.2)→W2.ownsRow lo UE s (kX y) y.2.2.length (ah f y.2.2):=fun y hy=>hy.kept hg (by
  cases hv:(kX y).ownBlock with
  |none=>exact .inl rfl
  |some g=>exact .inr fun q=>jM h.row hy hT q.symm hv)
 refine⟨A',c',W2,bV,⟨gh,by simp[h.len],fun y hy=>?_,fun i j u v a b ur hu hv PF Bq=>?_⟩,(Θ lo W).grown hg fw hk,hg⟩
 ·rcases Jan.1 hy with hy|hy
  ·exact keep y (h.one y hy)
  ·obtain rfl:=Jao.1 hy;exact keep y hx
 ·have get:∀(i:Nat) (u:Rw α),(X++[x])[i]? =ζ u→X[i]? =ζ u∨(i=X.length∧u=x):=fun i u hu=>by
   by_cases hi:i<X.length
   ·rw[List.getElem?_append_left hi] at hu;exact .inl hu
   ·rw[List.getElem?_append_right (by omega)] at hu;have h1:=(ν.1 hu).1;simp at h1;have e0:i - X.length=0:=by omega
    rw[e0] at hu;exact .inr ⟨by omega,by simpa using hu.symm⟩
  rcases get i u hu with qY|⟨ei,eu⟩
  ·rcases get j v hv with Lo|⟨ej,ev⟩
   ·exact h.ne i j u v a b ur qY Lo PF Bq
   ·exact hd u (ω qY) a b PF (by rw[←ev];exact Bq)
  ·rcases get j v hv with Lo|⟨ej,ev⟩
   ·exact fun q=>hd v (ω Lo) b a Bq (by rw[←eu];exact PF) q.symm
   ·omega
section
variable {b n:Nat} {f:D→Option ψ} {S:List D} {w w':ο} {x:D} {t e:Υ} {ops:Array Oper} {rest:List Oper} {o:Oper} {a:Act} {Q:Exit→Act→ο→Prop} {F:Fence} {nF:Nat}
theorem Ko (hg:o.guard=ε) (m y v:Operand) (ho:o.op=.mapUpdate t m y v) (hm:a.eval m=.map (ζ b)) (h:cA w b n f S) (ht:η.underlying t=ζ (.map 32 e)) (hn:n<maxLen) (hx:su x)
 (hy:a.eval y=dV x) {u:ψ} (hv:a.eval v=u) (hK:∀w',cA w' b (n+1) (fun y=>if y=x then ζ u else f y) (oB x S)→w.grownBy w' (ζ b)→wpListIn F nF η ops Q rest (a.put o.dst undef) w'):wpListIn F nF η ops Q (o::rest) a w:=by
 refine wpListIn_plain hg fun K' Wt=>?_
 obtain⟨w',h1,h2,h3⟩:=h.put ht hn hx u;unfold Oper.wpIn
 refine⟨?_,?_⟩
 ·simp[Oper.about,ho]
 ·rw[Oper.semAt_plain F _ _ (by rw[ho];intro c XD;cases XD),oZ ho hm hy hv h1];exact Wt _ _ (hK w' h2 h3)
end
def Marks (W:ο) (lo:Nat):List Deferred→Prop
 |[]=>True
 |d::r=>(∃k,d={target:=.collected k,args:=#[]}∧lo≤k∧W.heap[k]? =ζ (.deferred (ζ []))∧∀e∈r,e≠d)∧Marks W lo r
structure Shut (lo:Nat) (W W':ο):Prop where
 os:W'.os=W.os
 tape:W'.tape=W.tape
 output:W'.output=W.output
 size:W.heap.size=W'.heap.size
 block:∀i o,W.heap[i]? =ζ o→(i<lo∨o.isCells=τ)→W'.heap[i]? =ζ o
theorem Shut.refl (lo:Nat) (W:ο):Shut lo W W:=⟨rfl,rfl,rfl,rfl,fun _ _ h _=>h⟩
theorem Shut.put {lo:Nat} {W W':ο} (h:Shut lo W W') {k:Nat} (hk:lo≤k) (hd:W'.heap[k]? =ζ (.deferred (ζ []))):Shut lo W (W'.putObj k (.deferred ε)):=by
 refine⟨h.os,h.tape,h.output,by rw[h.size];simp,fun i o hi hc=>?_⟩
 have h1:=h.block i o hi hc
 by_cases e:i=k
 ·subst e;exfalso;rw[hd] at h1;injection h1 with h1
  subst h1;rcases hc with hc|hc
  ·omega
  ·cases hc
 ·exact(World.putObj_heap_other e).trans h1
theorem Shut.below {lo n:Nat} {W W':ο} (h:Shut lo W W') (hn:n≤lo):σ n W W':=by
 refine⟨h.os,h.tape,h.output,Nat.le_of_eq h.size,fun k hk=>?_⟩
 cases e:W.heap[k]? with
 |none=>
  have h1:=h.size;rw[Array.getElem?_eq_none_iff] at e ⊢;omega
 |some o=>exact h.block k o e (.inl (by omega))
theorem Marks.at_ {W W':ο} {lo:Nat}:∀{ds:List Deferred},Marks W lo ds→(∀k,lo≤k→W.heap[k]? =ζ (.deferred (ζ []))→W'.heap[k]? =ζ (.deferred (ζ [])))→Marks W' lo ds
 |[],_,_=>trivial
 |_::_,⟨⟨k,h1,h2,h3,h4⟩,hr⟩,hk=>⟨⟨k,h1,h2,hk k h2 h3,h4⟩,hr.at_ hk⟩
theorem Marks.other {W:ο} {lo j:Nat} {d:Deferred} (hd:d={target:=.collected j,args:=#[]}) (fw:lo≤j):∀{ds:List Deferred},Marks W lo ds→(∀e∈ds,e≠d)→Marks (W.putObj j (.deferred ε)) lo ds
 |[],_,_=>trivial
 |c::r,⟨⟨k,h1,h2,h3,h4⟩,hr⟩,bj=>by
  refine⟨⟨k,h1,h2,?_,h4⟩,hr.other hd fw (fun e he=>bj e (Jad _ he))⟩
  have Xw:k≠j:=fun e=>bj c (Jai ..) (by rw[h1,hd,e])
  exact(World.putObj_heap_other Xw).trans h3
theorem rO {F:Fence} {n:Nat} {P:Program} {fn:Func} {tmps:Array ψ} {R:Ending→ο→Prop} {lo:Nat} {V:ο} (hR:∀W',Shut lo V W'→LeavesIn F n P fn tmps R [] .returning W'):
 ∀(ds:List Deferred) (W:ο),Shut lo V W→Marks W lo ds→LeavesInM F n P fn tmps R ds .returning W
 |[],W,hS,_=>hR W hS
 |d::r,W,hS,⟨⟨k,h1,h2,h3,h4⟩,hr⟩=>by
  refine⟨by simp,.inl ⟨k,W.putObj k (.deferred ε),by rw[h1],run_takeDeferred h3,?_⟩⟩
  exact rO hR r _ (hS.put h2 h3) (hr.other h1 h2 (fun e he=>h4 e he))
theorem Marks.push {W:ο} {lo k:Nat} {ds:List Deferred} (h:Marks W lo ds) (hk:lo≤k) (hd:W.heap[k]? =ζ (.deferred (ζ []))) (bj:∀e∈ds,e≠{target:=.collected k,args:=#[]}):Marks W lo ({target:=.collected k,args:=#[]}::ds):=
 ⟨⟨k,rfl,hk,hd,bj⟩,h⟩
theorem Marks.lt {W:ο} {lo:Nat}:∀{ds:List Deferred},Marks W lo ds→∀e∈ds,∃k,e={target:=.collected k,args:=#[]}∧k<W.heap.size
 |[],_,_,h=>by cases h
 |_::_,⟨⟨k,h1,_,h3,_⟩,hr⟩,e,he=>by
  rcases Η.1 he with rfl|he
  ·exact⟨k,h1,(Jaa.1 h3).1⟩
  ·exact hr.lt e he
def iY (g:D→Option D) (N:Nat):List D→List D→List (List D)
 |[],_=>[]
 |x::r,T=>if x∈T then iY g N r T else gJ g N x::iY g N r (T++gJ g N x)
theorem OX (L:List D):ah lf L=aA L:=by
 induction L with
 |nil=>rfl
 |cons x L ih=>
  show lf x++ah lf L=_;rw[ih];rfl
theorem Fv {W W':ο} {lo k n:Nat} {e:Υ} {v:ψ} {xs:List ψ} (h:W.ownsRow lo e k v n xs) (hb:∀g,v.ownBlock=ζ g→W'.heap[g]? =W.heap[g]?):W'.ownsRow lo e k v n xs:=by
 refine⟨h.1,?_⟩
 rcases h.2 with q|⟨g,cap,cur,q1,q2,q3,q4⟩
 ·exact .inl q
 ·exact .inr ⟨g,cap,cur,q1,q2,(hb g (by rw[q1];rfl)).trans q3,q4⟩
theorem RowsIn.at_ {α:Type} {W W':ο} {lo:Nat} {UR UE:Υ} {s:Nat} {f:α→List ψ} {A:Option Κ} {n c:Nat} {X:List (Rw α)} (h:RowsIn W lo UR UE s f A n c X)
 (hb:∀g cs t fr,lo≤g→W.heap[g]? =ζ (δ cs t fr)→(t=UR∨t=UE)→W'.heap[g]? =W.heap[g]?):RowsIn W' lo UR UE s f A n c X:=by
 refine⟨Fv h.row fun g hg=>?_,h.len,fun x hx=>Fv (h.one x hx) fun g hg=>?_,h.ne⟩
 ·rcases h.row.2 with⟨q,_⟩|⟨g',cap,cur,q1,q2,q3,q4⟩
  ·rw[q] at hg;cases hg
  ·rw[q1] at hg;obtain rfl:g'=g:=Μ hg;exact hb g' cur UR (0,0) q2 q3 (.inl rfl)
 ·rcases (h.one x hx).2 with⟨q,_⟩|⟨g',cap,cur,q1,q2,q3,q4⟩
  ·rw[q] at hg;cases hg
  ·rw[q1] at hg;obtain rfl:g'=g:=Μ hg;exact hb g' cur UE (0,0) q2 q3 (.inr rfl)
end Go.Proofs.YtpdpbfmiahjiiaaGreat
