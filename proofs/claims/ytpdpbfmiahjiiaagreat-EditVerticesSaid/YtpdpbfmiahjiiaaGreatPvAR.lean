/- Several texts in one. -/
import Derived.Test.YtpdpbfmiahjiiaaGreatPvAB
import Derived.Test.YtpdpbfmiahjiiaaGreatPvAC
import Derived.Test.YtpdpbfmiahjiiaaGreatPvAF
import Derived.Test.YtpdpbfmiahjiiaaGreatPvAQ
set_option linter.unusedSectionVars false
set_option linter.unusedSimpArgs false
set_option linter.unusedVariables false
set_option maxRecDepth 100000
set_option maxHeartbeats 16000000
namespace Go.Proofs.YtpdpbfmiahjiiaaGreat
open Go.RowKit
open _root_.Go.Value renaming slice→γ,string→μ,agg→φ,bool→Β,tuple→Ξ
open _root_.Go.Obj renaming cells→δ
open _root_.Option renaming none→ε,some→ζ
open _root_.Go.Proofs.Tryz renaming prog→η
open _root_.List renaming getElem?_eq_some_iff→ν
open _root_.Go.Act renaming put→ξ
open _root_.Bool renaming false→ρ,true→τ
open _root_.Go.RowKit renaming Below→σ
open _root_.Nat renaming le_refl→Δ,add_zero→Jac,zero_le→Jas
open _root_.Go renaming Calls→Ζ,Addr→Κ,wp_region_lit→Jam
open _root_.Go.RowKit.Below renaming refl→Θ
open _root_.Go.Addr renaming add_lit→Ν
def addR (x:Gn):Bool→List Gn→List Gn
 |p,[]=>if p=τ then[] else[x]
 |p,y::G=>(if p=ρ∧cH x y≤0 then[x] else[])++((if y.1=x.1 then[] else[y])++addR x (p||decide (cH x y≤0)) G)
theorem addR_far {x:Gn}:∀{G:List Gn},(∀y∈G,¬y.1=x.1)→addR x τ G=G
 |[],_=>rfl
 |y::G,h=>by
  show(if τ=ρ∧_ then[x] else[])++((if y.1=x.1 then[] else[y])++addR x (τ||_) G)=y::G
  rw[if_neg (by simp),if_neg (h y List.mem_cons_self),Bool.true_or,addR_far (fun z hz=>h z (List.mem_cons_of_mem _ hz))];rfl
theorem addR_eq {x:Gn}:∀{G:List Gn},cT G→addR x ρ G=rq G x
 |[],_=>rfl
 |y::G,h=>by
  have hp:=q9 h;have hc:=List.pairwise_cons.1 hp;have hn:=sH y x
  have far:cH y x≥0→∀z∈G,¬z.1=x.1:=fun h0 z hz e=>by
   have h1:=hc.1 z hz;have h2:cH y z=cH y x:=by unfold cH;rw[e]
   omega
  show(if ρ=ρ∧cH x y≤0 then[x] else[])++((if y.1=x.1 then[] else[y])++addR x (ρ||decide (cH x y≤0)) G)=if cH y x<0 then y::rq G x else if cH y x=0 then x::G else x::y::G
  by_cases h1:cH y x<0
  ·have bj:¬y.1=x.1:=fun e=>by have:=(kL y x).2 e;omega
   rw[if_pos h1,if_neg (by omega),if_neg bj,decide_eq_false (by omega),Bool.false_or,addR_eq (qN h)];rfl
  ·rw[if_neg h1,if_pos ⟨rfl,by omega⟩,decide_eq_true (by omega),Bool.or_true,addR_far (far (by omega))]
   by_cases h2:cH y x=0
   ·rw[if_pos h2,if_pos ((kL y x).1 h2)];rfl
   ·rw[if_neg h2,if_neg (fun e=>h2 ((kL y x).2 e))];rfl
theorem addB_find (G:List Gn) (x:Gn):(fX G x.1).2=G.any (fun y=>decide (y.1=x.1)):=by
 induction G with
 |nil=>rfl
 |cons y G ih=>
  rw[fX,List.any_cons]
  by_cases e:y.1=x.1
  ·rw[if_pos e,decide_eq_true e];rfl
  ·rw[if_neg e,decide_eq_false e,Bool.false_or,ih]
theorem pushG {w W:World} {B:Nat} {A:Option Κ} {n c:Nat} {T:List Gn} (iC:Ow w B 98 6 (γ A n c) n (ah cZ T) W) (x:Gn) (hn:n≤1000):
 ∃A' c' W',(Builtin.append_ #[26,26] 26 #[γ A n c,γ (ζ ⟨W.heap.size,0,ε⟩) 1 1]).run η (W.alloc (δ (cZ x).toArray 98))=.ok (γ A' (n+1) c') W'∧Ow w B 98 6 (γ A' (n+1) c') (n+1) (ah cZ (T++[x])) W':=by
 obtain⟨i,hi,qJ,ly,kK⟩:=aW mP;obtain⟨v',W',bV,ho,-⟩:=Ow.app (P:=η) 26 26 98 i _ 6 48 B Tryz.underlying26 hi qJ ly kK rfl (by decide) _ _ _ (iC.up (az W (δ (cZ x).toArray 98))) _ _ 1 1 _ (bg.of_whole (Whole.new_ W 98 (cZ x)) rfl) (kz x) (by unfold maxLen;omega) (by omega);rw[show ah cZ T++cZ x=ah cZ (T++[x]) by rw[bY];simp[ah]] at ho;obtain⟨A',c',rfl,-⟩:=ho.rds;exact⟨A',c',W',bV,ho⟩
theorem radd_any (A:Option Κ) (n c:Nat) (G:List Gn) (x:Gn) (w:World) (h:bg w w.heap.size 6 A n c (ah cZ G)) (hn:n≤400) (hr:cT G):
 Ζ η 75 #[γ A n c,φ #[J x.1.1,J x.1.2.1,J x.1.2.2,J x.2.1,J x.2.2.1,J x.2.2.2]] w fun e w'=>∃A' n' c',e=.returned (γ A' n' c')∧bg w' w'.heap.size 6 A' n' c' (ah cZ (dP G x))∧σ w.heap.size w w':=by
 have hl:G.length=n:=h.rlen bT (by decide);obtain⟨⟨tq,ok⟩,gf⟩:∃z,fX G x.1=z:=⟨_,rfl⟩
 have hany:G.any (fun y=>decide (y.1=x.1))=ok:=by rw[←addB_find,gf]
 have HF:Hid (∀X,σ w.heap.size w X→Ζ η 101 #[γ A n c,φ #[J x.1.1,J x.1.2.1,J x.1.2.2]] X fun e w'=>e=.returned (Ξ #[φ #[J tq.1,J tq.2.1,J tq.2.2],Β ok])∧σ X.heap.size X w'):=qh (fun X hX=>by
  have:=rfind_any A n c G x.1 X (h.bl hX) (by omega)
  rwa [gf] at this)
 have H:=qh h;have HL:=qh hl;have HR:=qh hr;have HAn:=qh hany;have lQ:Whole (w.alloc (δ #[J x.1.1,J x.1.2.1,J x.1.2.2,J x.2.1,J x.2.2.1,J x.2.2.2] 98)) w.heap.size 98 (cZ x):=Whole.new_ w 98 (cZ x);have fp:=az w (δ #[J x.1.1,J x.1.2.1,J x.1.2.2,J x.2.1,J x.2.2.1,J x.2.2.2] 98);clear h hl hr gf hany;go_enter Tryz.func75,Tryz.ntmps75;go_upto_region 1 with fail
 obtain⟨w0,Pr⟩:=aB (w.alloc (δ #[J x.1.1,J x.1.2.1,J x.1.2.2,J x.2.1,J x.2.2.1,J x.2.2.2] 98));obtain⟨b0,bp⟩:=aB w.heap.size;rw[Pr] at lQ fp ⊢;rw[bp] at lQ ⊢;have aQ:=qh lQ;have bw:=qh fp;clear Pr bp lQ fp;have x0:=aQ.out.cell (i:=0) rfl;have x1:=aQ.out.cell (i:=1) rfl;have x2:=aQ.out.cell (i:=2) rfl
 go_upto_region 2 with (first
  |(go_at_call 101
    refine(HF.out _ bw.out).mono ?_
    rintro e w1 ⟨rfl,cP⟩;have bE:=qh (ag bw.out cP);have aL:=qh (aQ.out.bl cP);clear cP aQ bw x0 x1 x2))
 have bG:=qh (aI bE.out (δ #[J tq.1,J tq.2.1,J tq.2.2] 32));have aZ:=qh (aL.out.al (δ #[J tq.1,J tq.2.1,J tq.2.2] 32));obtain⟨w2,gw2⟩:=aB (w1.alloc (δ #[J tq.1,J tq.2.1,J tq.2.2] 32));rw[gw2] at bG aZ ⊢;clear gw2 bE aL HF
 by_cases hfull:ok=ρ∧400≤n
 ·obtain⟨rfl,h4⟩:=hfull;have q:(400:Int)≤(n:Int):=by omega
  have hA:dP G x=G:=Fz HAn.out (by rw[HL.out];exact h4);have HA:=qh hA;clear hA h4;go_wp2;go_ret;exact⟨A,n,c,rfl,by rw[HA.out];exact H.out.bl bG.out,bG.out⟩
 have HA:Hid (dP G x=addR x ρ G):=qh (by
  rw[addR_eq HR.out];cases hk:ok with
  |false=>
   have e:(G.any fun y=>decide (y.1=x.1))=ρ:=by rw[HAn.out,hk]
   exact EJ e (by rw[HL.out];exact fun q=>hfull ⟨hk,q⟩)
  |true=>
   have e:(G.any fun y=>decide (y.1=x.1))=τ:=by rw[HAn.out,hk]
   exact BN e (by rw[HL.out];omega))
 have h400:ok=τ∨n<400:=by
  cases hk:ok with
  |true=>exact .inl rfl
  |false=>exact .inr (Nat.lt_of_not_le (fun q=>hfull ⟨hk,q⟩))
 have q2:ok=ρ→¬(400:Int)≤(n:Int):=fun h=>by
  rcases h400 with h1|h1
  ·rw[h] at h1;cases h1
  ·omega
 have PC:Hid (Ow w2 w2.heap.size 98 6 (γ (ζ ⟨w2.heap.size,0,ε⟩) 0 0) 0 (ah cZ []) (w2.alloc (δ #[] 98))):=qh ⟨kk (junk:=[]) (show Whole (w2.alloc (δ #[] 98)) w2.heap.size 98 [] from Whole.new_ _ _ []) (Δ _) rfl (Δ _) (by decide) rfl,az w2 _,Δ _,by simp⟩;clear hfull h400 HAn;go_cut [23] (fun v z=>v=Β ρ∧z=w2)
 case first=>
  cases ok with
  |false=>
   have q3:=q2 rfl;clear q2;go_wp2_with fail
   go_meet;exact⟨rfl,rfl⟩
  |true=>
   clear q2;go_wp2_with fail
   go_meet;exact⟨rfl,rfl⟩
 case rest=>
  obtain⟨rfl,hz⟩:=hcut;clear q2;obtain rfl:w2=wc:=hz.symm;go_upto_region 5 with fail
  obtain⟨g1,Ka⟩:=aB w2.heap.size;obtain⟨w3,gw3⟩:=aB (w2.alloc (δ #[] 98));rw[gw3,Ka] at PC;rw[gw3,Ka];clear gw3;have KT:Hid (addR x ρ G=[]++addR x ρ (G.drop 0)):=qh rfl;have Gg1:=qh Ka;clear Ka;go_upto_region 7 with fail
  go_loopw [7,8,9] (fun vo vp vi wr=>∃(j:Nat) (p:Bool) (A2:Option Κ) (n2 c2:Nat) (T:List Gn),j≤n∧n2≤2*j∧vo=γ A2 n2 c2∧vp=Β p∧vi=J (j:Int)∧Hid (Ow w2 g1 98 6 (γ A2 n2 c2) n2 (ah cZ T) wr)∧Hid (addR x ρ G=T++addR x p (G.drop j))) (fun _ _ vi _=>n - (intOf vi).toNat)
  case atStart=>exact⟨0,ρ,_,0,0,[],Jas _,Jas _,rfl,rfl,rfl,PC,KT⟩
  case round=>
   clear PC KT;obtain⟨j,p,A2,n2,c2,T,hj,SG,rfl,rfl,rfl,HO,HN⟩:=hrel;obtain⟨wo,cS⟩:=aB wr;rw[cS] at HO ⊢;clear cS
   by_cases nT:j<n
   ·have ya:(j:Int)<(n:Int):=by omega
    obtain⟨y,hy⟩:∃y,G[j]? =ζ y:=⟨_,List.getElem?_eq_getElem (by have:=HL.out;omega)⟩
    have kd:G.drop j=y::G.drop (j+1):=by
     rw[List.drop_eq_getElem_cons (ν.1 hy).1,(ν.1 hy).2]
    have Xc:Hid (addR x ρ G=T++((if p=ρ∧cH x y≤0 then[x] else[])++((if y.1=x.1 then[] else[y])++addR x (p||decide (cH x y≤0)) (G.drop (j+1))))):=qh (by
     have:=HN.out
     rw[kd] at this;exact this)
    obtain⟨bb,off,rfl,aY,a8⟩:=H.out.place bT (by decide) (by omega);have L0:=qh (by have q:=a8 j _ hy 0 _ rfl;simp only[Ν,Jac] at q;exact q);have L1:=qh (by have q:=a8 j _ hy 1 _ rfl;simp only[Ν,Jac] at q;exact q);have L2:=qh (by have q:=a8 j _ hy 2 _ rfl;simp only[Ν,Jac] at q;exact q);have HP:=qh (a8 j _ hy);obtain⟨o,go⟩:=aB (cH x y);have HOr:Hid (∀X,Ζ η 56 #[φ #[J x.1.1,J x.1.2.1,J x.1.2.2],φ #[J y.1.1,J y.1.2.1,J y.1.2.2]] X fun e w'=>e=.returned (J o)∧σ X.heap.size X w'):=qh (fun X=>go▸oU x.1.1 x.1.2.1 x.1.2.2 y.1.1 y.1.2.1 y.1.2.2 X);rw[go] at Xc;have HW:=qh (ag bG.out HO.out.below);have FF:=qh (aZ.out.bl HO.out.below);clear hy kd a8 go HN;go_upto_region 9 with fail
    go_cut [44] (fun v z=>∃b:Bool,v=Β b∧Hid (b=(!p && decide (o≤0)))∧Hid (σ wo.heap.size wo z))
    case first=>
     cases p with
     |true=>
      refine ay (aO) (by kernel_rfl) ?_;refine aa 0 ?_;refine aa 1 ?_;refine aa 2 ?_;refine cp 3 ?_;refine cp 4 ?_;refine cp 5 ?_;refine cp 6 ?_;refine cp 7 ?_;refine cp 8 ?_;refine cp 9 ?_;refine cp 10 ?_;refine cp 11 ?_;refine aa 12 ?_;refine aF (by kernel_rfl) ?_ _;intro w8 cg;go_wp2;go_meet;exact⟨ρ,rfl,qh rfl,qh (ag (aN (Θ _ wo)) cg)⟩
     |false=>
      have s6:=cm (i:=0) FF.out rfl;have sX:=cm (i:=1) FF.out rfl;have Yd:=cm (i:=2) FF.out rfl;have ly0:∀w',Kept aO wo.drew w'→w'.cell? ⟨bb,off+j*6,ε⟩=ζ (J y.1.1):=fun w' h=>h.nil_cell ((HW.out.cell (p:=⟨bb,off+j*6,ε⟩) aY).trans L0.out)
      have ly1:∀w',Kept aO wo.drew w'→w'.cell? ⟨bb,off+j*6+1,ε⟩=ζ (J y.1.2.1):=fun w' h=>h.nil_cell ((HW.out.cell (p:=⟨bb,off+j*6+1,ε⟩) aY).trans L1.out)
      have ly2:∀w',Kept aO wo.drew w'→w'.cell? ⟨bb,off+j*6+2,ε⟩=ζ (J y.1.2.2):=fun w' h=>h.nil_cell ((HW.out.cell (p:=⟨bb,off+j*6+2,ε⟩) aY).trans L2.out)
      refine ay (aO) (by kernel_rfl) ?_;refine aa 0 ?_;refine aa 1 ?_;refine aa 2 ?_;refine aa 3 ?_;refine aa 4 ?_;refine aa 5 ?_;refine aa 6 ?_;refine aa 7 ?_;refine aa 8 ?_;refine aa 9 ?_;refine cV 10 (hy:=by apply bP;rfl;rotate_left;intro w' aC;exact HOr.out w';intro w';go_simp) (h:=?_);refine aa 11 ?_;refine aa 12 ?_;refine aF (by kernel_rfl) ?_ _;intro w8 cg;go_wp2;go_meet;exact⟨decide (o≤0),rfl,qh (by simp),qh (ag (aN (Θ _ wo)) cg)⟩
    case rest=>
     obtain⟨b,rfl,hb,hz⟩:=hcut;have KQ:=qh (HO.out.up hz.out);have eY:=qh (FF.out.bl hz.out)
     have KL:Hid (addR x ρ G=(T++if b=τ then[x] else[])++((if y.1=x.1 then[] else[y])++addR x (p||b) (G.drop (j+1)))):=qh (by
      have e:=hb.out;have h:=Xc.out;cases p with
      |true=>
       rw[e,h,if_neg (by simp)];simp
      |false=>
       by_cases ho:o≤0
       ·rw[if_pos ⟨rfl,ho⟩] at h;rw[e,h,decide_eq_true ho];simp
       ·rw[if_neg (fun q=>ho q.2)] at h;rw[e,h,decide_eq_false ho];simp)
     clear hz hb Xc HO FF HOr HW;go_upto_if 44 with fail
     go_cut [7,8] (fun vo vp z=>∃(A3:Option Κ) (n3 c3:Nat) (T3:List Gn),vo=γ A3 n3 c3∧vp=Β (p||b)∧n3≤n2+1∧Hid (Ow w2 g1 98 6 (γ A3 n3 c3) n3 (ah cZ T3) z)∧Hid (addR x ρ G=T3++((if y.1=x.1 then[] else[y])++addR x (p||b) (G.drop (j+1)))))
     case first=>
      cases b with
      |false=>
       have VN:=KL;go_wp2_with fail
       go_meet;exact⟨A2,n2,c2,T,rfl,by simp,by omega,KQ,qh (by have:=VN.out;simpa using this)⟩
      |true=>
       obtain⟨A3,c3,W3,bV,Xf⟩:=pushG KQ.out x (by omega);have Ck:=qh Xf;clear Xf;go_upto_region 10 with fail
       refine Jam ?_;refine a7 (v:=?_) (ζ 45) rfl (by rfl) ?_ ?_;rotate_left
       ·go_simp;(try with_reducible rfl)
       simp only[ξ,aw,ar,aq];refine eJ (ζ 46) rfl (by rfl) 98 (.tmp 3) rfl b0 rfl 98 (cZ x) _ eY.out Tryz.underlying98 rfl (by kernel_rfl) ?_;simp only[ξ,aw,ar,aq];refine gS (ζ 47) rfl (by rfl) 26 98 1 #[(0,.tmp 46)] (by rfl) Tryz.underlying26 (cZ x).toArray (by kernel_rfl) ?_;simp only[ξ,aw,ar,aq];refine pC (ζ 48) rfl (by rfl) (dt (by rfl) (by rfl) (by rfl) bV) ?_;simp only[ξ,aw,ar,aq];clear bV;have VN:=KL;go_wp2_with fail
       go_meet;exact⟨A3,n2+1,c3,T++[x],rfl,by simp,by omega,Ck,qh (by have:=VN.out;simpa using this)⟩
     case rest=>
      obtain⟨A3,n3,c3,T3,rfl,rfl,hn3,BE,HN5⟩:=hcut;obtain⟨wo,cS⟩:=aB wc;rw[cS] at BE ⊢;clear cS KL KQ eY;have HW:=qh (ag bG.out BE.out.below);have FF:=qh (aZ.out.bl BE.out.below);obtain⟨p2,gp2⟩:=aB ((p||b));rw[gp2] at HN5 ⊢;clear gp2;have hq:∀W,(binOp .neq 32 (φ #[J y.1.1,J y.1.2.1,J y.1.2.2]) (φ #[J x.1.1,J x.1.2.1,J x.1.2.2])).run η W=.ok (Β (!decide (y.1=x.1))) W:=fun W=>nz y.1 x.1 W
      obtain⟨e,ge⟩:=aB (decide (y.1=x.1));rw[ge] at hq;have HE:=qh ge;clear ge;have s6:=cm (i:=0) FF.out rfl;have sX:=cm (i:=1) FF.out rfl;have Yd:=cm (i:=2) FF.out rfl;have ly0:∀w',Kept aO wo.drew w'→w'.cell? ⟨bb,off+j*6,ε⟩=ζ (J y.1.1):=fun w' h=>h.nil_cell ((HW.out.cell (p:=⟨bb,off+j*6,ε⟩) aY).trans L0.out)
      have ly1:∀w',Kept aO wo.drew w'→w'.cell? ⟨bb,off+j*6+1,ε⟩=ζ (J y.1.2.1):=fun w' h=>h.nil_cell ((HW.out.cell (p:=⟨bb,off+j*6+1,ε⟩) aY).trans L1.out)
      have ly2:∀w',Kept aO wo.drew w'→w'.cell? ⟨bb,off+j*6+2,ε⟩=ζ (J y.1.2.2):=fun w' h=>h.nil_cell ((HW.out.cell (p:=⟨bb,off+j*6+2,ε⟩) aY).trans L2.out)
      go_upto_region 12 with fail
      refine ay (aO) (by kernel_rfl) ?_;refine aa 0 ?_;refine aa 1 ?_;refine aa 2 ?_;refine aa 3 ?_;refine aa 4 ?_;refine aa 5 ?_;refine aa 6 ?_;refine cV 7 (hy:=dD (by rfl) (fun w' aC=>dU .neq 32 (.tmp 53) (.tmp 55) 32 rfl rfl rfl (by kernel_rfl) (hq w'))) (h:=?_);refine aF (by kernel_rfl) ?_ _;intro w8 cg;have XW:=qh ((BE.out.up ((Θ wo.heap.size wo).drew)).up cg);have HW8:=qh (ag bG.out XW.out.below);clear cg BE HW FF s6 sX Yd ly0 ly1 ly2 hq;cases e with
      |true=>
       have HN8:Hid (addR x ρ G=T3++addR x p2 (G.drop (j+1))):=qh (by
        have h:=HN5.out;rw[if_pos (of_decide_eq_true HE.out)] at h;exact h)
       clear HN5 HE;go_wp2;go_roundw
       case rel=>exact⟨j+1,p2,A3,n3,c3,T3,by omega,by omega,rfl,rfl,by go_num,XW,HN8⟩
       case measure=>simp[intOf];omega
      |false=>
       have HN8:Hid (addR x ρ G=(T3++[y])++addR x p2 (G.drop (j+1))):=qh (by
        have h:=HN5.out;rw[if_neg (of_decide_eq_false HE.out)] at h;rw[h];simp)
       clear HN5 HE;go_upto_region 13 with fail
       obtain⟨A4,c4,W4,bV,YL⟩:=pushG XW.out y (by omega);have KQ:=qh YL;clear YL XW;refine Jam ?_;refine a7 (v:=?_) (ζ 57) rfl (by rfl) ?_ ?_;rotate_left
       ·go_simp;(try with_reducible rfl)
       simp only[ξ,aw,ar,aq];refine a7 (v:=?_) (ζ 58) rfl (by rfl) ?_ ?_;rotate_left
       ·go_simp;(try with_reducible rfl)
       simp only[ξ,aw,ar,aq];refine a7 (v:=?_) (ζ 59) rfl (by rfl) ?_ ?_;rotate_left
       ·go_simp;(try with_reducible rfl)
       simp only[ξ,aw,ar,aq];refine a7 (v:=?_) (ζ 60) rfl (by rfl) ?_ ?_;rotate_left
       ·go_simp;(try with_reducible rfl)
       simp only[ξ,aw,ar,aq];refine wR (ζ 61) rfl (by rfl) 98 (.tmp 60) rfl ⟨bb,off+j*6,ε⟩ rfl (cZ y) _ (fun i u hu=>(HW8.out.cell (by rw[en];exact aY)).trans (HP.out i u hu)) Tryz.underlying98 rfl (by kernel_rfl) ?_;simp only[ξ,aw,ar,aq];refine gS (ζ 62) rfl (by rfl) 26 98 1 #[(0,.tmp 61)] (by rfl) Tryz.underlying26 (cZ y).toArray (by kernel_rfl) ?_;simp only[ξ,aw,ar,aq];refine pC (ζ 63) rfl (by rfl) (dt (by rfl) (by rfl) (by rfl) bV) ?_;simp only[ξ,aw,ar,aq];clear bV HP;go_wp2;go_roundw
       case rel=>exact⟨j+1,p2,A4,n3+1,c4,T3++[y],by omega,by omega,rfl,rfl,by go_num,KQ,HN8⟩
       case measure=>simp[intOf];omega
   ·obtain rfl:n=j:=by omega
    have hN:=HN.out;rw[List.drop_of_length_le (by have:=HL.out;omega)] at hN;have xK:=qh (aZ.out.bl HO.out.below);cases p with
    |true=>
     have HT:Hid (dP G x=T):=qh (by rw[HA.out,hN];show T++(if τ=τ then[] else[x])=T;simp);clear hN HN;go_wp2;go_ret;exact⟨A2,n2,c2,rfl,by rw[HT.out];exact aK HO.out.own,ag bG.out HO.out.below⟩
    |false=>
     have HT:Hid (dP G x=T++[x]):=qh (by rw[HA.out,hN];rfl);obtain⟨A3,c3,W3,bV,Xf⟩:=pushG HO.out x (by omega);have Ck:=qh Xf;clear Xf hN HN;go_upto_region 15 with fail
     refine Jam ?_;refine a7 (v:=?_) (ζ 66) rfl (by rfl) ?_ ?_;rotate_left
     ·go_simp;(try with_reducible rfl)
     simp only[ξ,aw,ar,aq];refine eJ (ζ 67) rfl (by rfl) 98 (.tmp 3) rfl b0 rfl 98 (cZ x) _ xK.out Tryz.underlying98 rfl (by kernel_rfl) ?_;simp only[ξ,aw,ar,aq];refine gS (ζ 68) rfl (by rfl) 26 98 1 #[(0,.tmp 67)] (by rfl) Tryz.underlying26 (cZ x).toArray (by kernel_rfl) ?_;simp only[ξ,aw,ar,aq];refine pC (ζ 69) rfl (by rfl) (dt (by rfl) (by rfl) (by rfl) bV) ?_;simp only[ξ,aw,ar,aq];clear bV;go_wp2;go_ret;exact⟨A3,n2+1,c3,rfl,by rw[HT.out];exact aK Ck.out.own,ag bG.out Ck.out.below⟩
section
variable {W:World} {A:Option Κ} {n c:Nat} {Vs:List VC} {B:Option Κ} {m k:Nat} {Es:List EC} {C:Option Κ} {r rc:Nat} {G:List Gn}
theorem rres_any (h:bz W A n c Vs B m k Es) (hg:bg W W.heap.size 6 C r rc (ah cZ G)) (hn:n≤1000) (hr:∀y∈Vs,y.2.1.2.1≤1000000) (qx:r≤1000) (d:D):
 Ζ η 98 #[φ #[γ A n c,γ B m k,γ C r rc],φ #[J d.1,J d.2.1,J d.2.2]] W fun e w'=>e=.returned (φ #[J (kr (xW Vs) G r d).1,J (kr (xW Vs) G r d).2.1,J (kr (xW Vs) G r d).2.2])∧σ W.heap.size W w':=by
 have HA:Hid (∀X,σ W.heap.size W X→∀x1 x2 x3,Ζ η 29 #[φ #[γ A n c,γ B m k],φ #[J x1,J x2,J x3]] X fun e w'=>e=.returned (Ξ #[φ #[J (lE Vs (x1,x2,x3)).1.1,J (lE Vs (x1,x2,x3)).1.2],Β (lE Vs (x1,x2,x3)).2])∧σ X.heap.size X w'):=qh (fun X hX x1 x2 x3=>Bl A n c Vs B m k Es x1 x2 x3 X (h.below hX) (by omega) (fun y hy=>by have:=hr y hy;omega));have HF:Hid (∀X,σ W.heap.size W X→∀x:D,Ζ η 101 #[γ C r rc,φ #[J x.1,J x.2.1,J x.2.2]] X fun e w'=>e=.returned (Ξ #[φ #[J (fX G x).1.1,J (fX G x).1.2.1,J (fX G x).1.2.2],Β (fX G x).2])∧σ X.heap.size X w'):=qh (fun X hX x=>rfind_any C r rc G x X (hg.bl hX) (by omega));obtain⟨z,gz⟩:=aB (kr (xW Vs) G r d);have KT:Hid (if 0≤r then kr (xW Vs) G (r - 0) d=z else z=zD):=qh (by rw[if_pos (Jas _)];exact gz);rw[gz];obtain⟨d1,d2,d3⟩:=d;obtain⟨z1,z2,z3⟩:=z;clear h hg hr gz;go_enter Tryz.func98,Tryz.ntmps98;go_upto_region 1 with fail
 obtain⟨W0,b0,b1,b2,bO,bp,dE,jc,aQ,aL,aZ,bw,-,-,oa,-,iP,-,eI,uW,RA,tU⟩:=Bs W 28 [γ A n c,γ B m k,γ C r rc] 32 [J d1,J d2,J d3] 32 [J 0,J 0,J 0];rw[bO,jc,dE,bp];clear bO bp dE jc;go_upto_region 2 with fail
 go_loopw [5] (fun vi wr=>∃(j:Nat) (e1 e2 e3:Int),j≤r+1∧vi=J (j:Int)∧Hid (σ W.heap.size W wr)∧Hid (Whole wr b0 28 [γ A n c,γ B m k,γ C r rc])∧Hid (Whole wr b1 32 [J e1,J e2,J e3])∧Hid (Whole wr b2 32 [J 0,J 0,J 0])∧Hid (if j≤r then kr (xW Vs) G (r - j) (e1,e2,e3)=(z1,z2,z3) else(z1,z2,z3)=zD)) (fun vi _=>r+1 - (intOf vi).toNat)
 case atStart=>exact⟨0,d1,d2,d3,Jas _,rfl,bw,aQ,aL,aZ,KT⟩
 case round=>
  clear bw aQ aL aZ KT;obtain⟨j,e1,e2,e3,hj,rfl,HB,aQ,aL,aZ,HN⟩:=hrel;obtain⟨wo,cS⟩:=aB wr;rw[cS] at HB aQ aL aZ ⊢;clear cS
  by_cases hjr:j≤r
  ·have hi:(j:Int)≤(r:Int):=by omega
   have x0:=aQ.out.cell (i:=0) rfl;have x1:=aQ.out.cell (i:=1) rfl;have x2:=aQ.out.cell (i:=2) rfl;have p0:=aL.out.cell (i:=0) rfl;have p1:=aL.out.cell (i:=1) rfl;have p2:=aL.out.cell (i:=2) rfl;obtain⟨⟨⟨a1,a2⟩,st⟩,ga⟩:∃z,lE Vs (e1,e2,e3)=z:=⟨_,rfl⟩
   have Py:xW Vs (e1,e2,e3)=st:=by unfold xW;rw[ga]
   have Ny:=qh (HA.out wo HB.out e1 e2 e3);rw[ga] at Ny;have Xg:=qh Py;have Ed:Hid (kr (xW Vs) G (r - j) (e1,e2,e3)=(z1,z2,z3)):=qh (by have:=HN.out;rwa [if_pos hjr] at this);clear ga Py HN
   go_upto_region 5 with (first
    |(go_at_call 29
      refine Ny.out.mono ?_;rintro e w2 ⟨rfl,aP⟩;have bG:=qh (aI (ag HB.out aP) (δ #[J a1,J a2] 30));have vG:=qh ((aQ.out.bl aP).al (δ #[J a1,J a2] 30));have j7:=qh ((aL.out.bl aP).al (δ #[J a1,J a2] 30));have iq:=qh ((aZ.out.bl aP).al (δ #[J a1,J a2] 30));clear aP HB aQ aL aZ Ny x0 x1 x2 p0 p1 p2))
   obtain⟨w3,gw3⟩:=aB (w2.alloc (δ #[J a1,J a2] 30));rw[gw3] at bG vG j7 iq ⊢;clear gw3;cases st with
   |true=>
    have hz:(e1,e2,e3)=(z1,z2,z3):=by rw[←Ed.out,Jb _ _ _ Xg.out]
    injection hz with h1 h2
    injection h2 with h2 h3
    subst h1 h2 h3;have p0:=j7.out.cell (i:=0) rfl;have p1:=j7.out.cell (i:=1) rfl;have p2:=j7.out.cell (i:=2) rfl;have zz0:=iq.out.cell (i:=0) rfl;have zz1:=iq.out.cell (i:=1) rfl;have zz2:=iq.out.cell (i:=2) rfl;have y0:=iq.out.free 0;have y1:=iq.out.free 1;have y2:=iq.out.free 2;have nb:=tU.out;go_wp2;exact dO rfl b2 rfl (((iq.out.set_ 0 (J e1)).set_ 1 (J e2)).set_ 2 (J e3)) Tryz.underlying32 rfl (by kernel_rfl) rfl ⟨rfl,(((bG.out.setCell (p:=⟨b2,0,ε⟩) eI.out (J e1)).setCell (p:=⟨b2,1,ε⟩) eI.out (J e2)).setCell (p:=⟨b2,2,ε⟩) eI.out (J e3))⟩
   |false=>
    have x0:=vG.out.cell (i:=0) rfl;have x1:=vG.out.cell (i:=1) rfl;have x2:=vG.out.cell (i:=2) rfl;have p0:=j7.out.cell (i:=0) rfl;have p1:=j7.out.cell (i:=1) rfl;have p2:=j7.out.cell (i:=2) rfl;obtain⟨⟨⟨t1,t2,t3⟩,ok⟩,gf⟩:∃z,fX G (e1,e2,e3)=z:=⟨_,rfl⟩
    have Bh:=qh (HF.out w3 bG.out (e1,e2,e3));rw[gf] at Bh;have HGf:=qh gf;clear gf
    go_upto_region 8 with (first
     |(go_at_call 101
       refine Bh.out.mono ?_;rintro e w4 ⟨rfl,ns⟩;have kC:=qh (aI (ag bG.out ns) (δ #[J t1,J t2,J t3] 32));have Um:=qh ((vG.out.bl ns).al (δ #[J t1,J t2,J t3] 32));have mN:=qh ((j7.out.bl ns).al (δ #[J t1,J t2,J t3] 32));have uM:=qh ((iq.out.bl ns).al (δ #[J t1,J t2,J t3] 32));have HT4:=qh (Whole.new_ w4 32 [J t1,J t2,J t3]);have Nt4:Hid (b1≠w4.heap.size):=qh (by have:=(j7.out.bl ns).lt;omega);clear ns bG vG j7 iq Bh x0 x1 x2 p0 p1 p2))
    obtain⟨w5,gw5⟩:=aB (w4.alloc (δ #[J t1,J t2,J t3] 32));obtain⟨b5,FU⟩:=aB w4.heap.size;rw[gw5] at kC Um mN uM HT4 ⊢;rw[FU] at HT4 Nt4 ⊢;clear gw5 FU;have XO:¬xW Vs (e1,e2,e3)=τ:=by rw[Xg.out];decide
    cases ok with
    |false=>
     have hz:(z1,z2,z3)=zD:=by rw[←Ed.out,J4 _ _ _ XO (by rw[HGf.out];exact Bool.false_ne_true)]
     injection hz with h1 h2
     injection h2 with h2 h3
     subst h1 h2 h3;clear XO;have zz0:=uM.out.cell (i:=0) rfl;have zz1:=uM.out.cell (i:=1) rfl;have zz2:=uM.out.cell (i:=2) rfl;have y0:=uM.out.free 0;have y1:=uM.out.free 1;have y2:=uM.out.free 2;go_wp2;exact dO rfl b2 rfl (((uM.out.set_ 0 (J 0)).set_ 1 (J 0)).set_ 2 (J 0)) Tryz.underlying32 rfl (by kernel_rfl) rfl ⟨rfl,(((kC.out.setCell (p:=⟨b2,0,ε⟩) eI.out (J 0)).setCell (p:=⟨b2,1,ε⟩) eI.out (J 0)).setCell (p:=⟨b2,2,ε⟩) eI.out (J 0))⟩
    |true=>
     have HNn:Hid (if j+1≤r then kr (xW Vs) G (r - (j+1)) (t1,t2,t3)=(z1,z2,z3) else(z1,z2,z3)=zD):=qh (by
      have h:=Ed.out
      by_cases dz:j+1≤r
      ·rw[if_pos dz];rw[show r - j=(r - (j+1))+1 by omega,Jf _ _ _ XO (by rw[HGf.out]),HGf.out] at h;exact h
      ·rw[if_neg dz];rw[show r - j=0 by omega,M9 _ _ XO] at h;exact h.symm)
     clear XO Ed HGf Xg;have tt0:=HT4.out.cell (i:=0) rfl;have tt1:=HT4.out.cell (i:=1) rfl;have tt2:=HT4.out.cell (i:=2) rfl;have p0:=mN.out.cell (i:=0) rfl;have p1:=mN.out.cell (i:=1) rfl;have p2:=mN.out.cell (i:=2) rfl;have y0:=mN.out.free 0;have y1:=mN.out.free 1;have y2:=mN.out.free 2;go_wp2;go_roundw
     case rel=>exact⟨j+1,t1,t2,t3,by omega,by go_num,qh (((kC.out.setCell (p:=⟨b1,0,ε⟩) iP.out (J t1)).setCell (p:=⟨b1,1,ε⟩) iP.out (J t2)).setCell (p:=⟨b1,2,ε⟩) iP.out (J t3)),qh (((Um.out.set_far' (i:=0) uW.out (J t1)).set_far' (i:=1) uW.out (J t2)).set_far' (i:=2) uW.out (J t3)),qh (((mN.out.set_ 0 (J t1)).set_ 1 (J t2)).set_ 2 (J t3)),qh (((uM.out.set_far' (i:=0) tU.out.symm (J t1)).set_far' (i:=1) tU.out.symm (J t2)).set_far' (i:=2) tU.out.symm (J t3)),HNn⟩
     case measure=>simp[intOf];omega
  ·have hi:¬(j:Int)≤(r:Int):=by omega
   have hz:(z1,z2,z3)=zD:=by have:=HN.out;rwa [if_neg hjr] at this
   injection hz with h1 h2
   injection h2 with h2 h3
   subst h1 h2 h3;clear HN;have x2:=aQ.out.cell (i:=2) rfl;have zz0:=aZ.out.cell (i:=0) rfl;have zz1:=aZ.out.cell (i:=1) rfl;have zz2:=aZ.out.cell (i:=2) rfl;have y0:=aZ.out.free 0;have y1:=aZ.out.free 1;have y2:=aZ.out.free 2;go_wp2;exact dO rfl b2 rfl (((aZ.out.set_ 0 (J 0)).set_ 1 (J 0)).set_ 2 (J 0)) Tryz.underlying32 rfl (by kernel_rfl) rfl ⟨rfl,(((HB.out.setCell (p:=⟨b2,0,ε⟩) eI.out (J 0)).setCell (p:=⟨b2,1,ε⟩) eI.out (J 0)).setCell (p:=⟨b2,2,ε⟩) eI.out (J 0))⟩
end
theorem fndV_mem {Vs:List VC} {x:Nm} (h:(eP Vs x).2=τ):(eP Vs x).1∈Vs:=by
 rcases II (fun v:VC=>v.1) zV Vs x with h1|h1
 ·exact h1
 ·have h2:(eP Vs x).2=ρ:=congrArg (·.2) h1;rw[h2] at h;cases h
section
variable {W:World} {A:Option Κ} {n c:Nat} {Vs:List VC} {B:Option Κ} {m k:Nat} {Es:List EC} {C:Option Κ} {r rc:Nat} {G:List Gn}
theorem rcornN (h:bz W A n c Vs B m k Es) (hg:bg W W.heap.size 6 C r rc (ah cZ G)) (hn:n≤1000) (hr:∀y∈Vs,y.2.1.2.1≤1000000) (qx:r≤1000) (v1 v2 a1 a2 a3:Int) (hv:bu (Vs.map vS) (v1,v2)=ρ):Ζ η 72 #[φ #[γ A n c,γ B m k,γ C r rc],φ #[J v1,J v2,J a1,J a2,J a3]] W fun e w'=>e=.returned (Ξ #[φ #[J 0,J 0,J 0,J 0,J 0],J 13])∧σ W.heap.size W w':=by
 have HV:Hid (∀X,σ W.heap.size W X→Ζ η 27 #[φ #[γ A n c,γ B m k],φ #[J v1,J v2]] X fun e w'=>e=.returned (Ξ #[φ (vC (eP Vs (v1,v2)).1).toArray,Β (eP Vs (v1,v2)).2])∧σ X.heap.size X w'):=qh (fun X hX=>Vr A n c Vs B m k Es v1 v2 X (h.v.bl hX) (by omega));have OY:=(tK Vs (v1,v2)).1.trans hv;obtain⟨⟨u,ok⟩,gu⟩:∃z,eP Vs (v1,v2)=z:=⟨_,rfl⟩
 rw[gu] at HV OY;obtain rfl:ok=ρ:=OY;obtain⟨⟨i1,i2⟩,⟨rA,rn,jg,rL⟩,lb,at_⟩:=u;replace HV:Hid (∀X,σ W.heap.size W X→Ζ η 27 #[φ #[γ A n c,γ B m k],φ #[J v1,J v2]] X fun e w'=>e=.returned (Ξ #[φ #[J i1,J i2,γ rA rn jg,μ lb,J at_],Β ρ])∧σ X.heap.size X w'):=HV;clear h hg hr hv gu;go_enter Tryz.func72,Tryz.ntmps72;go_upto_region 1 with fail
 obtain⟨W0,b0,b1,b2,bO,bp,dE,jc,aQ,aL,aZ,bw,-,-,oa,-,iP,-,eI,uW,RA,tU⟩:=Bs W 28 [γ A n c,γ B m k,γ C r rc] 34 [J v1,J v2,J a1,J a2,J a3] 34 [J 0,J 0,J 0,J 0,J 0];rw[bO,jc,dE,bp];clear bO bp dE jc;have x0:=aQ.out.cell (i:=0) rfl;have x1:=aQ.out.cell (i:=1) rfl;have x2:=aQ.out.cell (i:=2) rfl;have p0:=aL.out.cell (i:=0) rfl;have p1:=aL.out.cell (i:=1) rfl;have p2:=aL.out.cell (i:=2) rfl;have p3:=aL.out.cell (i:=3) rfl;have p4:=aL.out.cell (i:=4) rfl
 go_upto_region 2 with (first
  |(go_at_call 27
    refine(HV.out _ bw.out).mono ?_
    rintro e w2 ⟨rfl,aP⟩;have bG:=qh (aI (ag bw.out aP) (δ #[J i1,J i2,γ rA rn jg,μ lb,J at_] 59));have HX2_:=qh ((aZ.out.bl aP).al (δ #[J i1,J i2,γ rA rn jg,μ lb,J at_] 59));clear aP aQ aL aZ bw x0 x1 x2 p0 p1 p2 p3 p4))
 obtain⟨w3,gw3⟩:=aB (w2.alloc (δ #[J i1,J i2,γ rA rn jg,μ lb,J at_] 59));rw[gw3] at bG HX2_ ⊢;clear gw3;have z0:=HX2_.out.cell (i:=0) rfl;have z1:=HX2_.out.cell (i:=1) rfl;have z2:=HX2_.out.cell (i:=2) rfl;have z3:=HX2_.out.cell (i:=3) rfl;have z4:=HX2_.out.cell (i:=4) rfl;have y0:=HX2_.out.free 0;have y1:=HX2_.out.free 1;have y2:=HX2_.out.free 2;have y3:=HX2_.out.free 3;have y4:=HX2_.out.free 4;go_wp2;exact bS rfl b2 rfl rfl (((((HX2_.out.set_ 0 (J 0)).set_ 1 (J 0)).set_ 2 (J 0)).set_ 3 (J 0)).set_ 4 (J 0)) Tryz.underlying34 rfl (by kernel_rfl) rfl ⟨rfl,(((((bG.out.setCell (p:=⟨b2,0,ε⟩) eI.out (J 0)).setCell (p:=⟨b2,1,ε⟩) eI.out (J 0)).setCell (p:=⟨b2,2,ε⟩) eI.out (J 0)).setCell (p:=⟨b2,3,ε⟩) eI.out (J 0)).setCell (p:=⟨b2,4,ε⟩) eI.out (J 0))⟩
theorem rcornY (h:bz W A n c Vs B m k Es) (hg:bg W W.heap.size 6 C r rc (ah cZ G)) (hn:n≤1000) (hr:∀y∈Vs,y.2.1.2.1≤1000000) (qx:r≤1000) (v1 v2 a1 a2 a3:Int) (hv:bu (Vs.map vS) (v1,v2)=τ) (Tw:G.length=r):Ζ η 72 #[φ #[γ A n c,γ B m k,γ C r rc],φ #[J v1,J v2,J a1,J a2,J a3]] W fun e w'=>e=.returned (Ξ #[φ #[J (lz (Vs.map vS) G ((v1,v2),(a1,a2,a3))).1.1,J (lz (Vs.map vS) G ((v1,v2),(a1,a2,a3))).1.2,J (lz (Vs.map vS) G ((v1,v2),(a1,a2,a3))).2.1,J (lz (Vs.map vS) G ((v1,v2),(a1,a2,a3))).2.2.1,J (lz (Vs.map vS) G ((v1,v2),(a1,a2,a3))).2.2.2],J 0])∧σ W.heap.size W w':=by
 have HV:Hid (∀X,σ W.heap.size W X→Ζ η 27 #[φ #[γ A n c,γ B m k],φ #[J v1,J v2]] X fun e w'=>e=.returned (Ξ #[φ (vC (eP Vs (v1,v2)).1).toArray,Β (eP Vs (v1,v2)).2])∧σ X.heap.size X w'):=qh (fun X hX=>Vr A n c Vs B m k Es v1 v2 X (h.v.bl hX) (by omega));have OY:=(tK Vs (v1,v2)).1.trans hv;have ec:=(tK Vs (v1,v2)).2;have eE:=fndV_mem OY;obtain⟨⟨u,ok⟩,gu⟩:∃z,eP Vs (v1,v2)=z:=⟨_,rfl⟩
 rw[gu] at HV OY ec eE;obtain rfl:ok=τ:=OY;obtain⟨⟨i1,i2⟩,⟨rA,rn,jg,rL⟩,lb,at_⟩:=u;replace HV:Hid (∀X,σ W.heap.size W X→Ζ η 27 #[φ #[γ A n c,γ B m k],φ #[J v1,J v2]] X fun e w'=>e=.returned (Ξ #[φ #[J i1,J i2,γ rA rn jg,μ lb,J at_],Β τ])∧σ X.heap.size X w'):=HV;have ec:rL=eS (Vs.map vS) (v1,v2):=ec;have uH:RgOk W (rA,rn,jg,rL):=h.r _ eE;have kc:rn≤1000000:=hr _ eE;obtain⟨t,gt⟩:=aB (kr (xW Vs) G r (a1,a2,a3));obtain⟨⟨c1,q⟩,gq⟩:∃z,lz (Vs.map vS) G ((v1,v2),(a1,a2,a3))=z:=⟨_,rfl⟩
 have hc:(if t∈rL then t else zD)=q∧c1=(v1,v2):=by
  unfold lz at gq;rw[←YJ,Tw,gt,←ec] at gq;exact⟨congrArg (·.2) gq,(congrArg (·.1) gq).symm⟩
 rw[gq]
 have Iw:Hid (∀X,σ W.heap.size W X→Ζ η 98 #[φ #[γ A n c,γ B m k,γ C r rc],φ #[J a1,J a2,J a3]] X fun e w'=>e=.returned (φ #[J t.1,J t.2.1,J t.2.2])∧σ X.heap.size X w'):=qh (fun X hX=>by
  have:=rres_any (h.below hX) (hg.bl hX) hn hr qx (a1,a2,a3)
  rwa [gt] at this)
 have HI:Hid (∀X,σ W.heap.size W X→Ζ η 33 #[γ rA rn jg,φ #[J t.1,J t.2.1,J t.2.2]] X fun e w'=>e=.returned (J (fC rL t))∧σ X.heap.size X w'):=qh (fun X hX=>oN rA rn jg rL t X (uH.2.bl hX) (by omega));have SM:(t∈rL→0≤fC rL t)∧(¬t∈rL→fC rL t= -1):=⟨fun h=>by rw[(j3 h).1];omega,fun h=>lK h⟩;obtain⟨ix,gx⟩:=aB (fC rL t);rw[gx] at HI SM;obtain⟨t1,t2,t3⟩:=t;obtain⟨q1,q2,q3⟩:=q;obtain⟨c11,c12⟩:=c1;obtain⟨hc,qB⟩:=hc;injection qB with k1 k2
 obtain rfl:v1=c11:=k1.symm;obtain rfl:v2=c12:=k2.symm;have HC:=qh hc;have ZF:=qh SM;clear h hg hr hv gu ec eE uH gt gq gx hc SM;go_enter Tryz.func72,Tryz.ntmps72;go_upto_region 1 with fail
 obtain⟨W0,b0,b1,b2,bO,bp,dE,jc,aQ,aL,aZ,bw,-,-,oa,-,iP,-,eI,uW,RA,tU⟩:=Bs W 28 [γ A n c,γ B m k,γ C r rc] 34 [J v1,J v2,J a1,J a2,J a3] 34 [J 0,J 0,J 0,J 0,J 0];rw[bO,jc,dE,bp];clear bO bp dE jc;have x0:=aQ.out.cell (i:=0) rfl;have x1:=aQ.out.cell (i:=1) rfl;have x2:=aQ.out.cell (i:=2) rfl;have p0:=aL.out.cell (i:=0) rfl;have p1:=aL.out.cell (i:=1) rfl;have p2:=aL.out.cell (i:=2) rfl;have p3:=aL.out.cell (i:=3) rfl;have p4:=aL.out.cell (i:=4) rfl
 go_upto_region 4 with (first
  |(go_at_call 27
    refine(HV.out _ bw.out).mono ?_
    rintro e w2 ⟨rfl,aP⟩;have bG:=qh (aI (ag bw.out aP) (δ #[J i1,J i2,γ rA rn jg,μ lb,J at_] 59));have vG:=qh ((aQ.out.bl aP).al (δ #[J i1,J i2,γ rA rn jg,μ lb,J at_] 59));have j7:=qh ((aL.out.bl aP).al (δ #[J i1,J i2,γ rA rn jg,μ lb,J at_] 59));have iq:=qh ((aZ.out.bl aP).al (δ #[J i1,J i2,γ rA rn jg,μ lb,J at_] 59));have SA:=qh (Whole.new_ w2 59 [J i1,J i2,γ rA rn jg,μ lb,J at_]);clear aP aQ aL aZ bw HV x0 x1 x2 p0 p1 p2 p3 p4))
 obtain⟨w3,gw3⟩:=aB (w2.alloc (δ #[J i1,J i2,γ rA rn jg,μ lb,J at_] 59));obtain⟨b3,Z6⟩:=aB w2.heap.size;rw[gw3] at bG vG j7 iq SA ⊢;rw[Z6] at SA ⊢;clear gw3 Z6;have x0:=vG.out.cell (i:=0) rfl;have x1:=vG.out.cell (i:=1) rfl;have x2:=vG.out.cell (i:=2) rfl;have p0:=j7.out.cell (i:=0) rfl;have p1:=j7.out.cell (i:=1) rfl;have p2:=j7.out.cell (i:=2) rfl;have p3:=j7.out.cell (i:=3) rfl;have p4:=j7.out.cell (i:=4) rfl
 go_upto_region 5 with (first
  |(go_at_call 98
    refine(Iw.out _ bG.out).mono ?_
    rintro e w4 ⟨rfl,ns⟩;have kC:=qh (aI (ag bG.out ns) (δ #[J t1,J t2,J t3] 32));have mN:=qh ((j7.out.bl ns).al (δ #[J t1,J t2,J t3] 32));have uM:=qh ((iq.out.bl ns).al (δ #[J t1,J t2,J t3] 32));have Qi:=qh ((SA.out.bl ns).al (δ #[J t1,J t2,J t3] 32));have HT4:=qh (Whole.new_ w4 32 [J t1,J t2,J t3]);have Lt4:Hid (W.heap.size≤w4.heap.size):=qh (ag bG.out ns).size;clear ns bG vG j7 iq SA Iw x0 x1 x2 p0 p1 p2 p3 p4))
 obtain⟨w5,gw5⟩:=aB (w4.alloc (δ #[J t1,J t2,J t3] 32));obtain⟨b5,FU⟩:=aB w4.heap.size;rw[gw5] at kC mN uM Qi HT4 ⊢;rw[FU] at HT4 Lt4 ⊢;clear gw5 FU
 have N52:Hid (b2≠b5):=qh (fun e=>by
  have h1:_=_:=uM.out;have h2:_=_:=HT4.out;rw[e] at h1;rw[h1] at h2;cases h2)
 have N51:Hid (b1≠b5):=qh (fun e=>by
  have h1:_=_:=mN.out;have h2:_=_:=HT4.out;rw[e] at h1;rw[h1] at h2;cases h2)
 have v2_:=Qi.out.cell (i:=2) rfl;have tt0:=HT4.out.cell (i:=0) rfl;have tt1:=HT4.out.cell (i:=1) rfl;have tt2:=HT4.out.cell (i:=2) rfl
 by_cases hm:(t1,t2,t3)∈rL
 ·have hi:¬ix<0:=by have:=ZF.out.1 hm;omega
  have hq:=HC.out;rw[if_pos hm] at hq;injection hq with k1 k2
  injection k2 with k2 k3
  subst k1 k2 k3;clear hm HC ZF
  go_upto_region 7 with (first
   |(go_at_call 33
     refine(HI.out _ kC.out).mono ?_
     rintro e w6 ⟨rfl,oE⟩;have s7:=qh (ag kC.out oE);have aen:=qh (mN.out.bl oE);have HX26:=qh (uM.out.bl oE);have vv:=qh (HT4.out.bl oE);clear oE kC mN uM Qi HT4 HI v2_ tt0 tt1 tt2))
  have p0:=aen.out.cell (i:=0) rfl;have p1:=aen.out.cell (i:=1) rfl;have tt0:=vv.out.cell (i:=0) rfl;have tt1:=vv.out.cell (i:=1) rfl;have tt2:=vv.out.cell (i:=2) rfl;have zz0:=HX26.out.cell (i:=0) rfl;have zz1:=HX26.out.cell (i:=1) rfl;have zz2:=HX26.out.cell (i:=2) rfl;have zz3:=HX26.out.cell (i:=3) rfl;have zz4:=HX26.out.cell (i:=4) rfl;have y0:=HX26.out.free 0;have y1:=HX26.out.free 1;have y2:=HX26.out.free 2;have y3:=HX26.out.free 3;have y4:=HX26.out.free 4;go_wp2;exact bS rfl b2 rfl rfl (((((HX26.out.set_ 0 (J v1)).set_ 1 (J v2)).set_ 2 (J t1)).set_ 3 (J t2)).set_ 4 (J t3)) Tryz.underlying34 rfl (by kernel_rfl) rfl ⟨rfl,(((((s7.out.setCell (p:=⟨b2,0,ε⟩) eI.out (J v1)).setCell (p:=⟨b2,1,ε⟩) eI.out (J v2)).setCell (p:=⟨b2,2,ε⟩) eI.out (J t1)).setCell (p:=⟨b2,3,ε⟩) eI.out (J t2)).setCell (p:=⟨b2,4,ε⟩) eI.out (J t3))⟩
 ·have hi:ix<0:=by have:=ZF.out.2 hm;omega
  have hq:=HC.out;rw[if_neg hm] at hq;injection hq with k1 k2
  injection k2 with k2 k3
  subst k1 k2 k3;clear hm HC ZF
  go_upto_region 6 with (first
   |(go_at_call 33
     refine(HI.out _ kC.out).mono ?_
     rintro e w6 ⟨rfl,oE⟩;have s7:=qh (ag kC.out oE);have aen:=qh (mN.out.bl oE);have HX26:=qh (uM.out.bl oE);have vv:=qh (HT4.out.bl oE);clear oE kC mN uM Qi HT4 HI v2_ tt0 tt1 tt2))
  have tt0:=vv.out.cell (i:=0) rfl;have tt1:=vv.out.cell (i:=1) rfl;have tt2:=vv.out.cell (i:=2) rfl;have ft0:=vv.out.free 0;have ft1:=vv.out.free 1;have ft2:=vv.out.free 2;go_upto_region 7 with fail
  have s7:=qh (((s7.out.setCell (p:=⟨b5,0,ε⟩) Lt4.out (J 0)).setCell (p:=⟨b5,1,ε⟩) Lt4.out (J 0)).setCell (p:=⟨b5,2,ε⟩) Lt4.out (J 0));have aen:=qh (((aen.out.set_far' (i:=0) N51.out (J 0)).set_far' (i:=1) N51.out (J 0)).set_far' (i:=2) N51.out (J 0));have HX26:=qh (((HX26.out.set_far' (i:=0) N52.out (J 0)).set_far' (i:=1) N52.out (J 0)).set_far' (i:=2) N52.out (J 0));have vv:=qh (((vv.out.set_ 0 (J 0)).set_ 1 (J 0)).set_ 2 (J 0));obtain⟨w7,gw7⟩:=aB (((w6.setCell ⟨b5,0,ε⟩ (J 0)).setCell ⟨b5,1,ε⟩ (J 0)).setCell ⟨b5,2,ε⟩ (J 0));rw[gw7] at s7 aen HX26 vv ⊢;clear gw7 tt0 tt1 tt2 ft0 ft1 ft2;have p0:=aen.out.cell (i:=0) rfl;have p1:=aen.out.cell (i:=1) rfl;have tt0:=vv.out.cell (i:=0) rfl;have tt1:=vv.out.cell (i:=1) rfl;have tt2:=vv.out.cell (i:=2) rfl;have zz0:=HX26.out.cell (i:=0) rfl;have zz1:=HX26.out.cell (i:=1) rfl;have zz2:=HX26.out.cell (i:=2) rfl;have zz3:=HX26.out.cell (i:=3) rfl;have zz4:=HX26.out.cell (i:=4) rfl;have y0:=HX26.out.free 0;have y1:=HX26.out.free 1;have y2:=HX26.out.free 2;have y3:=HX26.out.free 3;have y4:=HX26.out.free 4;go_wp2;exact bS rfl b2 rfl rfl (((((HX26.out.set_ 0 (J v1)).set_ 1 (J v2)).set_ 2 (J 0)).set_ 3 (J 0)).set_ 4 (J 0)) Tryz.underlying34 rfl (by kernel_rfl) rfl ⟨rfl,(((((s7.out.setCell (p:=⟨b2,0,ε⟩) eI.out (J v1)).setCell (p:=⟨b2,1,ε⟩) eI.out (J v2)).setCell (p:=⟨b2,2,ε⟩) eI.out (J 0)).setCell (p:=⟨b2,3,ε⟩) eI.out (J 0)).setCell (p:=⟨b2,4,ε⟩) eI.out (J 0))⟩
end
end Go.Proofs.YtpdpbfmiahjiiaaGreat
