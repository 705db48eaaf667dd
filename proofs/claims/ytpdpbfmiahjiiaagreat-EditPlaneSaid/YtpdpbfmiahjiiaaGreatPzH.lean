/- Several texts in one. -/
import Derived.Test.YtpdpbfmiahjiiaaGreatPzA
import Derived.Test.YtpdpbfmiahjiiaaGreatPzB
import Derived.Test.YtpdpbfmiahjiiaaGreatPzC
import Derived.Test.YtpdpbfmiahjiiaaGreatPzE
import Derived.Test.YtpdpbfmiahjiiaaGreatPzF
import Derived.Test.YtpdpbfmiahjiiaaGreatPzG
import Derived.Maps.OwnIn
import Derived.BigQuiet
import Derived.Deep.QuietTactic
import Derived.Deep.RegionHeld3
import Derived.Lib.Hide
import Derived.WalkKit
set_option linter.unusedSectionVars false
set_option linter.unusedSimpArgs false
set_option linter.unusedVariables false
set_option maxRecDepth 100000
set_option maxHeartbeats 16000000
namespace Go.Proofs.YtpdpbfmiahjiiaaGreat
open Go.RowKit
open _root_.Go.Value renaming slice→γ,string→μ,pointer→υ,agg→φ,bool→Β,tuple→Ξ,slice→Ο
open _root_.Go.Obj renaming cells→δ
open _root_.Option renaming none→ε,some→ζ,some→Jae
open _root_.Go.Proofs.Tryz renaming prog→η
open _root_.List renaming getElem?_eq_getElem→θ,map_cons→ι,getD_eq_getElem?_getD→χ,mem_of_getElem?→ω,mem_map→Α,length_append→Ε,mem_cons→Η,take_of_length_le→Ι,length_map→Ρ,all_eq_true→Φ,drop_eq_getElem_cons→Χ,getElem?_map→Ψ,getElem?_append_left→Jab,mem_cons_of_mem→Jad,mem_cons_self→Jai,getElem?_append_right→Jal,mem_append→Jan,mem_singleton→Jao,mem_flatMap→Jat,append_assoc→Jay,nil_append→JaF,length_cons→JaH,nodup_cons→JaJ,nodup_append→JaL,map_append→JaU,map_congr_left→JaV,map_map→JaW,take_add_one→Jbc,pairwise_map→Jbg,filter_cons→Jbm,getElem_of_mem→Jbv,pairwise_cons→JbM
open _root_.Go.Act renaming put→ξ
open _root_.Go renaming World→ο,Value→ψ,Calls→Ζ,Addr→Κ,TypeId→Υ,maxLen→Jap,bodyPost_ret→JaN,grownBy_setCell'→JbK
open _root_.Bool renaming false→ρ,true→τ,and_eq_true→Jar
open _root_.Go.RowKit renaming Below→σ
open _root_.Nat renaming le_refl→Δ,le_trans→Λ,add_zero→Jac,zero_add→JaI,lt_of_lt_of_le→JaK,sub_self→JaP,mod_eq_of_lt→JbE
open _root_.Go.RowKit.Below renaming refl→Θ
open _root_.Option.some renaming inj→Μ
open _root_.Go.Addr renaming add_lit→Ν
open _root_.Array renaming getElem?_eq_some_iff→Jaa
open _root_.Go.IntKind renaming i64→Jaw
open _root_.Go.Builtin renaming append_→JaY
open _root_.Go.IntWalk renaming i64_in→Jbb
open _root_.Int renaming tdiv_eq_ediv_of_nonneg→Jbp
open _root_.Go.World renaming size_alloc→JbF
section
attribute [local go_sem] Oper.semAt_some
def PD (V:ο) (bt bf bl:Nat) (T:List D) (q:Nat) (p:List D2) (W:ο):Prop:=
 Kept (fun i=>i=bt∨i=bf∨bl≤i) V W∧(∃A c,Whole W bf 57 [γ A p.length c]∧W.ownsRow (bl+3) 32 3 (γ A p.length c) p.length (aA (p.map (·.1))))∧
  ∃ft St,cA W bt (q+p.length) ft St∧∀y,(ft y).isSome=τ↔y∈T∨y∈p.map (·.1)
theorem Kept.gr {S:Nat→Prop} {V W W':ο} {r:Option Nat} (h:Kept S V W) (hg:W.grownBy W' r) (hr:∀k,r=ζ k→S k):Kept S V W':=
 h.trans ⟨hg.os,hg.tape,hg.output,hg.size,fun i hi hn=>hg.block i hi (fun e=>hn (hr i e.symm))⟩
theorem yS:(η.info? 57).map (fun i=>(i.zero,i.size,i.bytes))=ζ (ζ (γ ε 0 0),1,24):=by kernel_rfl
theorem cA.notcells {w:ο} {b n:Nat} {f:D→Option ψ} {S:List D} {cs:Array ψ} {t:Υ} {fr:Nat × Nat} (h:cA w b n f S) (hc:w.heap[b]? =ζ (δ cs t fr)):False:=by
 obtain⟨D,⟨es,clock,h1,_⟩,_⟩:=h;rw[h1] at hc;cases hc
theorem yR {W:ο} {lo k n g:Nat} {e:Υ} {v:ψ} {xs:List ψ} (h:W.ownsRow lo e k v n xs) (hg:v.ownBlock=ζ g):∃cs,W.heap[g]? =ζ (δ cs e (0,0)):=by
 rcases h.2 with⟨q,_⟩|⟨g',cap,cur,q1,q2,q3,q4⟩
 ·rw[q] at hg;cases hg
 ·rw[q1] at hg;obtain rfl:g'=g:=Μ hg;exact⟨_,q3⟩
theorem th {V W:ο} {lo k n bt bf bl nq:Nat} {e:Υ} {v:ψ} {xs:List ψ} {f:D→Option ψ} {S:List D} (h:V.ownsRow lo e k v n xs) (hk:Kept (fun i=>i=bt∨i=bf∨bl≤i) V W) (hm:cA V bt nq f S) (dz:∀g,v.ownBlock=ζ g→g<bf) (hbf:bf<bl):W.ownsRow lo e k v n xs:=
 Fv h fun g hg=>by
  obtain⟨cs,hc⟩:=yR h hg;refine hk.block g (Jaa.1 hc).1 (fun q=>?_)
  have:=dz g hg
  rcases q with rfl|q|q
  ·exact hm.notcells hc
  ·omega
  ·omega
theorem agI (W:ο) (y1 y2 y3:Int):∀j u,[J y1,J y2,J y3][j]? =ζ u→(W.alloc (δ #[J y1,J y2,J y3] 32)).cell? ((⟨W.heap.size,0,ε⟩:Κ).add j)=ζ u:=fun j u hj=>by
 have e:=(Whole.new_ W 32 [J y1,J y2,J y3]).cell hj;rw[Ν,JaI];exact e
theorem PD.abs {V:ο} {bt bf bl:Nat} {T:List D} {q:Nat} {p:List D2} (h1:bt<bl) (h2:bf<bl):PZ bl (PD V bt bf bl T q p):=by
 rintro W W' r ⟨hk,⟨A,c,e1,e2⟩,ft,St,e3,e4⟩ hg GS oJ
 refine⟨hk.gr hg (fun k e=>by cases e;exact .inr (.inr GS)),⟨A,c,e1.at_ (hg.block bf e1.lt (fun e=>by cases e;omega)),e2.kept hg (.inr (fun e=>by have:=(e2.lt r e).1;omega))⟩,ft,St,e3.grown hg (fun e=>by cases e;omega),e4⟩
theorem PD.al {V W:ο} {bt bf bl:Nat} {T:List D} {q:Nat} {p:List D2} (h:PD V bt bf bl T q p W) (o:Obj):PD V bt bf bl T q p (W.alloc o):=by
 obtain⟨hk,⟨A,c,e1,e2⟩,ft,St,e3,e4⟩:=h;exact⟨hk.trans (Kept.of_below (az W o)),⟨A,c,e1.al o,e2.alloc o⟩,ft,St,e3.al o,e4⟩
theorem I8 (A:Option Κ) (n c:Nat) (Vs:List VC) (B:Option Κ) (m k:Nat) (Es:List EC) (w:ο) (h:bz w A n c Vs B m k Es) (hn:n≤1000000) (hr:∀x∈Vs,x.2.1.2.1≤1000000) (hs:∀v∈Vs,∀d∈v.2.1.2.2.2,wfS d)
 (hK:∀S,yt (gi Vs) S→S.length≤1000000) (jJ:(qg Vs).length≤1000000):
 Ζ η 175 #[φ #[γ A n c,γ B m k]] w fun e w'=>∃S A' c' X,yt (gi Vs) S∧e=.returned (γ A' X.length c')∧RowsIn w' (w.heap.size+1) 57 32 3 lf A' X.length c' X∧X.map (·.2.2)=iY (gi Vs) S.length (sortD (qg Vs)) []∧σ w.heap.size w w':=by
 have HD:=qh h;have Hn:=qh hn;have Hr:=qh hr;have Hs:=qh hs;have HK:=qh hK;have Zi:=qh jJ;have Ee:=@run_makeMap η;obtain⟨i0,Bz,qJ,ly,kK⟩:=aW ju;obtain⟨iR,hiR,hr0,GS,oJ⟩:=aW yS;clear h hn hr hs hK jJ
 refine(callsIn_wide (n:=0)).1 ?_
 refine callsIn_of_wp_marks Tryz.func175 rfl trivial ?_;simp only[Tryz.ntmps175,List.size_toArray,JaH,List.length_nil,Nat.reduceAdd,Nat.reduceSub,Array.replicate_succ,Array.replicate_zero,List.push_toArray,List.append_toArray,JaF,List.cons_append];refine wpIn_wide.2 ?_;go_upto_region 2 with fail
 obtain⟨W0,b0,b1,bO,bp,dE,aQ,aL,bw,mQ,lZ,oa,uD,iP,uW⟩:=wT w 25 [γ A n c,γ B m k] 86 [γ ε 0 0];rw[bO,dE,bp];clear bO bp dE;have c0:=aQ.out.cell (i:=0) rfl;have c1:=aQ.out.cell (i:=1) rfl;go_upto_region 3 with (go_at_call 181;refine(EE A n c Vs B m k Es W0 (HD.out.bl bw.out) Hn.out Hr.out (fun v hv d hd=>(Hs.out v hv d hd).1)).mono ?_;rintro e w2 ⟨bm,q0,S,rfl,O0,hq2,hbm,aP⟩;have WL:=qh O0;have HKS:=qh O0.keysD;have bG:=qh (ag bw.out aP);have aZ:=qh (aQ.out.bl aP);have HL2:=qh (aL.out.bl aP);have sV:Hid (b1<bm):=qh (by have:=aL.out.lt;omega);clear O0 hq2 hbm aP)
 clear c0 c1 aQ aL bw mQ;have D5:=qh ((WL.out.al (.map #[] 0)).al (δ #[.map (ζ w2.heap.size)] 186));have Xa:Hid (cA ((w2.alloc (.map #[] 0)).alloc (δ #[.map (ζ w2.heap.size)] 186)) w2.heap.size 0 (fun _=>ε) []):=qh ((cA.made).al _);have cF:=qh ((aZ.out.al (.map #[] 0)).al (δ #[.map (ζ w2.heap.size)] 186));have HL3:=qh ((HL2.out.al (.map #[] 0)).al (δ #[.map (ζ w2.heap.size)] 186));have HU3:=qh (Whole.new2 (w:=w2.alloc (.map #[] 0)) (g:=w2.heap.size+1) (t:=186) (cs:=[.map (ζ w2.heap.size)]) (by simp));have bB:=qh (aI (aI bG.out (.map #[] 0)) (δ #[.map (ζ w2.heap.size)] 186));go_upto_region 4 with fail
 have GV:=WL.out.lt;have Xe:Hid (bm<w2.heap.size):=qh GV;obtain⟨W3,kh⟩:=aB ((w2.alloc (.map #[] 0)).alloc (δ #[.map (ζ w2.heap.size)] 186));obtain⟨bt,xY⟩:=aB w2.heap.size;rw[xY] at D5 Xa cF HL3 HU3 bB Xe kh ⊢;rw[kh] at D5 Xa cF HL3 HU3 bB ⊢;obtain⟨b5,FU⟩:=aB (bt+1);have Hb5:Hid (b5=bt+1):=qh FU.symm;rw[FU] at HU3 ⊢;clear kh FU xY GV WL aZ HL2 bG Ee;have agU:Hid (b0≤W3.heap.size):=qh (by have:=bB.out.size;have:=lZ.out;omega);have c0:=cF.out.cell (i:=0) rfl;have c1:=cF.out.cell (i:=1) rfl;go_wp2_with (go_at_call 182;refine(IV A n c Vs B m k Es W3 (HD.out.bl bB.out) Hn.out Hr.out).mono ?_;rintro e w4 ⟨Ad,cd,rfl,YL,ns⟩;have KQ:=qh YL;have kC:=qh (ag bB.out ns);have HM4:=qh (D5.out.bl ns);have HT4:=qh (Xa.out.bl ns);have HL4:=qh (HL3.out.bl ns);have HU4:=qh (HU3.out.bl ns);clear YL ns)
 clear c0 c1 D5 Xa cF HL3 HU3 bB;obtain⟨L,gL⟩:=aB (sortD (qg Vs));have hLl:L.length=(qg Vs).length:=by rw[←gL];simp[sortD]
 have HGL:=qh gL;rw[gL] at KQ;rw[←hLl] at KQ Zi ⊢
 have aes:Hid (∀d∈L,wfS d):=qh (fun d hd=>by
  rw[←gL] at hd;have lB:d∈qg Vs:=(List.mergeSort_perm _ _).mem_iff.1 hd;obtain⟨v,hv,hdv⟩:=Jat.1 lB;exact Hs.out v hv d hdv)
 clear gL hLl;have HF4:Hid (iY (gi Vs) S.length L []=([]:List (List D))++iY (gi Vs) S.length (L.drop 0) []):=qh rfl;have Ar:Hid (Marks w4 (b0+1) []):=qh trivial;have XN:Hid (RowsIn w4 (b0+1) 57 32 3 lf ε 0 0 ([]:List (Rw D))):=qh (RowsIn.nil_ _ _)
 refine wp_loop (fun a' wr=>∃(u7 u8 u9 u10 u19 u20 u21 u22 u23 u24 u25 u26 u27 u28 u29 u30 u31 u41 u42 u43 u44 u45:ψ),∃(i q l cl:Nat) (Al:Option Κ) (ft:D→Option ψ) (St T:List D) (X:List (Rw D)) (ds:List Deferred),i≤L.length∧a'={tmps:=#[φ #[γ A n c,γ B m k],υ (ζ ⟨b0,0,ε⟩),γ ε 0 0,υ (ζ ⟨b1,0,ε⟩),.map (ζ bm),υ (ζ ⟨b5,0,ε⟩),undef,u7,u8,u9,u10,undef,φ #[γ A n c,γ B m k],.map (ζ bm),.map (ζ bt),φ #[γ A n c,γ B m k],γ Ad L.length cd,J (L.length:Int),J (i:Int),u19,u20,u21,u22,u23,u24,u25,u26,u27,u28,u29,u30,u31,undef,undef,undef,undef,undef,undef,undef,undef,undef,u41,u42,u43,u44,u45,undef],defers:=ds}∧
  Hid (σ w.heap.size w wr)∧Hid (cA wr bm q0 (ux (gi Vs)) S)∧Hid (cA wr bt q ft St∧q≤i*1000000∧∀y,(ft y).isSome=τ↔y∈T)∧Hid (Whole wr b1 86 [γ Al l cl])∧Hid (Whole wr b5 186 [.map (ζ bt)])∧
  Hid (wr.ownsRow (W3.heap.size+1) 32 3 (γ Ad L.length cd) L.length (aA L))∧Hid (RowsIn wr (b0+1) 57 32 3 lf Al l cl X∧l≤i)∧Hid (iY (gi Vs) S.length L []=X.map (·.2.2)++iY (gi Vs) S.length (L.drop i) T)∧Hid (Marks wr (b0+1) ds))
  (fun a' _=>L.length - (intOf (a'.tmps.getD 18 undef)).toNat) ?_ ?_
 ·exact⟨_,_,_,_,_,_,_,_,_,_,_,_,_,_,_,_,_,_,_,_,_,_,0,0,0,0,ε,(fun _=>ε),[],[],[],[],by omega,rfl,kC,HM4,qh ⟨HT4.out,by omega,fun y=>by simp⟩,HL4,HU4,KQ,qh ⟨XN.out,by omega⟩,HF4,Ar⟩
 ·clear kC HM4 HT4 HL4 HU4 KQ XN HF4 Ar;rintro _ wr ⟨u7,u8,u9,u10,u19,u20,u21,u22,u23,u24,u25,u26,u27,u28,u29,u30,u31,u41,u42,u43,u44,u45,i,q,l,cl,Al,ft,St,T,X,ds,hi,rfl,HB,HM,HT,HL,HU,HO,HR,HF,HMk⟩
  by_cases jm:i<L.length
  ·obtain⟨bd,um,rfl,Po,hc⟩:=(aK HO.out).darts (by omega);obtain⟨d1,d2,d3⟩:=hc i jm;have OV:=aes.out (L.getD i (0,0,0)) (by rw[χ,θ jm];exact List.getElem_mem jm)
   have kd:L.drop i=L.getD i (0,0,0)::L.drop (i+1):=by
    rw[Χ jm,χ,θ jm];rfl
   obtain⟨x,gx⟩:=aB (L.getD i (0,0,0));rw[gx] at d1 d2 d3 OV kd;have Y2:=HF.out;rw[kd] at Y2;obtain⟨x1,x2,x3⟩:=x;have Z3:=qh OV;have Y2:=qh Y2;clear hc Po gx kd OV HF;have lX:=qh (aI HB.out (δ #[J x1,J x2,J x3] 32));have FR:=qh (HM.out.al (δ #[J x1,J x2,J x3] 32));have Wp:=qh (HT.out.1.al (δ #[J x1,J x2,J x3] 32));have Jk:=qh (HL.out.al (δ #[J x1,J x2,J x3] 32));have Yb:=qh (HU.out.al (δ #[J x1,J x2,J x3] 32));have Pf:=qh (HO.out.alloc (δ #[J x1,J x2,J x3] 32));have XI:=qh (HR.out.1.al (δ #[J x1,J x2,J x3] 32));have KY:Hid (Marks (wr.alloc (δ #[J x1,J x2,J x3] 32)) (b0+1) ds):=qh (HMk.out.at_ (fun k h1 h2=>(Below.heap_alloc _ _ _ (Jaa.1 h2).1).trans h2));have Ve:=qh (Whole.new2 (w:=wr) (t:=32) (cs:=[J x1,J x2,J x3]) rfl);go_upto_region 7 with fail
   clear d1 d2 d3;have Hq:=qh HT.out.2.1;have Yi:=qh HT.out.2.2;have Hl:=qh HR.out.2;obtain⟨wa,Sd⟩:=aB (wr.alloc (δ #[J x1,J x2,J x3] 32));obtain⟨b7,TA⟩:=aB wr.heap.size;rw[Sd] at lX FR Wp Jk Yb Pf XI KY Ve ⊢;rw[TA] at Ve ⊢;clear Sd TA HB HM HT HL HU HO HR HMk;have c0:=Ve.out.cell (i:=0) rfl;have c1:=Ve.out.cell (i:=1) rfl;have c2:=Ve.out.cell (i:=2) rfl;have e0:=Yb.out.cell (i:=0) rfl
   by_cases Ln:(x1,x2,x3)∈T
   ·have Hft:=qh ((Yi.out _).2 Ln);have Gx:Hid (iY (gi Vs) S.length L []=X.map (·.2.2)++iY (gi Vs) S.length (L.drop (i+1)) T):=qh (by rw[Y2.out,iY,if_pos Ln]);obtain⟨fv,Zo⟩:=aB ((ft (x1,x2,x3)).getD (J 0));go_upto_region 8 with (at_lookup;refine jE rfl _ _ rfl rfl Wp.out.mapF Tryz.underlying186 (kO _) (x:=(x1,x2,x3)) Z3.out.1 rfl ?_;rw[Hft.out,Zo])
    clear c0 c1 c2 e0 Zo;go_wp2
    have fT:wrap64 ((i:Int)+1)=((i+1:Nat):Int):=by
     have:=Zi.out
     unfold wrap64;omega
    rw[fT];exact⟨⟨_,_,_,_,_,_,_,_,_,_,_,_,_,_,_,_,_,_,_,_,_,_,i+1,q,l,cl,Al,ft,St,T,X,ds,by omega,rfl,lX,FR,qh ⟨Wp.out,Λ Hq.out (Nat.mul_le_mul_right _ (Nat.le_succ i)),Yi.out⟩,Jk,Yb,Pf,qh ⟨XI.out,by have:=Hl.out;omega⟩,Gx,KY⟩,by simp[intOf]<;>omega⟩
   ·have Hft:Hid ((ft (x1,x2,x3)).isSome=ρ):=qh (by
     cases hq:(ft (x1,x2,x3)).isSome with
     |false=>rfl
     |true=>exact absurd ((Yi.out _).1 hq) Ln)
    obtain⟨fv,Zo⟩:=aB ((ft (x1,x2,x3)).getD (J 0));go_upto_region 8 with (at_lookup;refine jE rfl _ _ rfl rfl Wp.out.mapF Tryz.underlying186 (kO _) (x:=(x1,x2,x3)) Z3.out.1 rfl ?_;rw[Hft.out,Zo])
    clear Zo;go_upto_region 10 with fail
    have rQ:=qh (aI lX.out (δ #[γ ε 0 0] 57));have HMf:=qh (FR.out.al (δ #[γ ε 0 0] 57));have Yg:=qh (Wp.out.al (δ #[γ ε 0 0] 57));have HLf:=qh (Jk.out.al (δ #[γ ε 0 0] 57));have HUf:=qh (Yb.out.al (δ #[γ ε 0 0] 57));have HOf:=qh (Pf.out.alloc (δ #[γ ε 0 0] 57));have HRf:=qh (XI.out.al (δ #[γ ε 0 0] 57));have ZX:=qh (Ve.out.al (δ #[γ ε 0 0] 57));have HKf:Hid (Marks (wa.alloc (δ #[γ ε 0 0] 57)) (b0+1) ds):=qh (KY.out.at_ (fun k h1 h2=>(Below.heap_alloc _ _ _ (Jaa.1 h2).1).trans h2));have PL:=qh (Whole.new2 (w:=wa) (t:=57) (cs:=[γ ε 0 0]) rfl)
    have KU:Hid ((∀g,(Ο Al l cl).ownBlock=ζ g→b0+1≤g∧g<wa.heap.size)∧(∀x∈X,∀g,(kX x).ownBlock=ζ g→b0+1≤g∧g<wa.heap.size)∧∀g,(Ο (ζ ⟨bd,um,ε⟩) L.length cd).ownBlock=ζ g→b0+1≤g∧g<wa.heap.size):=
     qh ⟨fun g e=>XI.out.row.lt g e,fun x hx g e=>(XI.out.one x hx).lt g e,fun g e=>⟨by have:=(Pf.out.lt g e).1;have:=agU.out;omega,(Pf.out.lt g e).2⟩⟩
    obtain⟨wf,gwf⟩:=aB (wa.alloc (δ #[γ ε 0 0] 57));obtain⟨bf,gbf⟩:=aB wa.heap.size
    have XL:Hid (bm<bf∧bt<bf∧b1<bf∧b5<bf∧b0<bf):=qh (by
     have:=FR.out.lt;have:=Wp.out.lt;have:=Jk.out.lt;have:=Yb.out.lt;have:=lX.out.size;have:=lZ.out;have:=uD.out;have:=sV.out
     omega)
    rw[gwf] at rQ HMf Yg HLf HUf HOf HRf HKf ZX PL ⊢;rw[gbf] at PL KU ⊢;clear gwf gbf lX FR Wp Jk Yb Pf XI KY Ve c0 c1 c2 e0;have c0:=ZX.out.cell (i:=0) rfl;have c1:=ZX.out.cell (i:=1) rfl;have c2:=ZX.out.cell (i:=2) rfl;go_wp2_with (go_at_call 183;refine(Jv bm x1 x2 x3 _).mono ?_;rintro e w' ⟨rfl,rfl⟩)
    clear c0 c1 c2;have ZB:=qh ((HMf.out.al (δ #[.map (ζ bm)] 184)).al (δ #[J x1,J x2,J x3] 32));have Td:=qh ((Yg.out.al (δ #[.map (ζ bm)] 184)).al (δ #[J x1,J x2,J x3] 32));have RI:=qh ((HLf.out.al (δ #[.map (ζ bm)] 184)).al (δ #[J x1,J x2,J x3] 32));have ZA:=qh ((HUf.out.al (δ #[.map (ζ bm)] 184)).al (δ #[J x1,J x2,J x3] 32));have Sx:=qh ((HRf.out.al (δ #[.map (ζ bm)] 184)).al (δ #[J x1,J x2,J x3] 32));have KX:=qh ((PL.out.al (δ #[.map (ζ bm)] 184)).al (δ #[J x1,J x2,J x3] 32));have U2:=qh ((HOf.out.alloc (δ #[.map (ζ bm)] 184)).alloc (δ #[J x1,J x2,J x3] 32));have Rh:=qh (aI (aI rQ.out (δ #[.map (ζ bm)] 184)) (δ #[J x1,J x2,J x3] 32))
    have HKv:Hid (Marks ((wf.alloc (δ #[.map (ζ bm)] 184)).alloc (δ #[J x1,J x2,J x3] 32)) (b0+1) ds):=qh (HKf.out.at_ (fun k h1 h2=>by
     have q:=(Jaa.1 h2).1;exact((Below.heap_alloc _ _ _ (by simp;omega)).trans (Below.heap_alloc _ _ _ q)).trans h2))
    have eh:=qh ((Whole.new_ wf 184 [.map (ζ bm)]).al (δ #[J x1,J x2,J x3] 32));have ZO:=qh (Whole.new2 (w:=wf.alloc (δ #[.map (ζ bm)] 184)) (g:=wf.heap.size+1) (t:=32) (cs:=[J x1,J x2,J x3]) (by simp));have Ej:Hid (bf<wf.heap.size∧((wf.alloc (δ #[.map (ζ bm)] 184)).alloc (δ #[J x1,J x2,J x3] 32)).heap.size=wf.heap.size+2):=qh ⟨PL.out.lt,by simp⟩;obtain⟨V,gV⟩:=aB ((wf.alloc (δ #[.map (ζ bm)] 184)).alloc (δ #[J x1,J x2,J x3] 32));obtain⟨bx,WQ⟩:=aB (wf.heap.size+1);obtain⟨bn,gbn⟩:=aB wf.heap.size;rw[gV] at ZB Td RI ZA Sx KX U2 Rh HKv eh ZO Ej ⊢;rw[WQ] at ZO ⊢;rw[gbn] at eh Ej WQ ⊢;have Hbx:=qh WQ;clear gV WQ gbn HMf Yg HLf HUf HRf PL HOf rQ HKf ZX;obtain⟨bl,Gu⟩:=aB V.heap.size;rw[Gu] at Ej;have Gbl:=qh Gu;have hNl:=HK.out _ HKS.out;have HNl:=qh hNl
    refine(wpIn_wide (n:=0)).1 ?_
    have MF:PD V bt bf bl T q [] V:=⟨Kept.refl _ _,⟨ε,0,KX.out,World.ownsRow_nil _ _ _ _⟩,ft,St,Td.out,fun y=>by rw[Yi.out y];simp⟩;have HA:∀p,PZ bl (PD V bt bf bl T q p):=fun p=>PD.abs (by have:=Td.out.lt;omega) (by have:=KX.out.lt;omega)
    clear hNl
    refine DS (gf:=187) (lb:=#[υ (ζ ⟨bx,0,ε⟩),υ (ζ ⟨bn,0,ε⟩)]) rfl (enters_of Tryz.func187 (by kernel_rfl) rfl) (encs:=fun y:D2=>#[dV y.1]) (fun _=>rfl) (fun i=>i=bx∨i=bn∨i=bm∨i=bl+2) (by have:=eh.out.lt;have:=ZO.out.lt;have:=ZB.out.lt;omega)
     (fun r=>Jr bx bn bm q0 (gi Vs) S (x1,x2,x3) Z3.out.1 (fun h=>Mh Hs.out _ h) (JU Hs.out) _ _ ⟨.inl rfl,.inr (.inl rfl),.inr (.inr (.inl rfl)),.inr (.inr (.inr (by simp[JbF,Gu])))⟩ ((ZO.out.al _).al _) ((eh.out.al _).al _) ((ZB.out.al _).al _) (by have:=HNl.out;omega))
     (PD V bt bf bl T q) (fun p y a' W=>∃By,bl+3≤By∧By<W.heap.size∧Whole W By 32 [J y.1.1,J y.1.2.1,J y.1.2.2]∧a'={tmps:=#[φ #[γ A n c,γ B m k],υ (ζ ⟨b0,0,ε⟩),γ ε 0 0,υ (ζ ⟨b1,0,ε⟩),.map (ζ bm),υ (ζ ⟨b5,0,ε⟩),undef,υ (ζ ⟨b7,0,ε⟩),fv,Β ρ,υ (ζ ⟨bf,0,ε⟩),υ (ζ ⟨By,0,ε⟩),φ #[γ A n c,γ B m k],.map (ζ bm),.map (ζ bt),φ #[γ A n c,γ B m k],γ (ζ ⟨bd,um,ε⟩) L.length cd,J (L.length:Int),J (i:Int),Β τ,υ (ζ ⟨bd,um+i*3,ε⟩),φ #[J x1,J x2,J x3],Ξ #[fv,Β ρ],.map (ζ bt),φ #[J x1,J x2,J x3],Ξ #[fv,Β ρ],fv,Β ρ,Β ρ,.map (ζ bm),φ #[J x1,J x2,J x3],.func (.func 187) #[] #[υ (ζ ⟨bx,0,ε⟩),υ (ζ ⟨bn,0,ε⟩)],dV y.1,undef,undef,undef,undef,undef,undef,undef,undef,u41,u42,u43,u44,u45,undef],defers:=[]}∧PD V bt bf bl T q p W)
     (fun _ _ _=>False) (by rw[Gu];exact HA)
     (fun p y a' W W' r h hg GS oJ=>by rw[Gu] at GS oJ;obtain⟨By,e1,e2,e3,e4,e5⟩:=h;exact⟨By,e1,JaK e2 hg.size,e3.at_ (hg.block By e2 (fun e=>by cases e;omega)),e4,HA p W W' r e5 hg GS oJ⟩)
     (fun _ _ _ _ _ h=>h.elim) MF ?assign ?body ?done ?stop
    case assign=>
     rintro l' pre ⟨⟨y1,y2,y3⟩,hy⟩ W R hiP agG hK;simp only[dV]
     gi_wp2
     exact hK _ _ (qA.grown (World.grownBy_alloc W _ ε) (fun r e=>by cases e)) ⟨W.heap.size,by omega,by simp,Whole.new_ _ _ _,rfl,hiP.al _⟩
    case body=>
     rintro l' pre ⟨⟨y1,y2,y3⟩,hy⟩ a' W ⟨By,hBy,hBl,hY,rfl,hk,⟨A9,c9,hb,ho⟩,ft9,St9,Ys,ff⟩ hlen agG;have RB:bf<bl:=by have:=Ej.out;omega
     have aeM:bf<bn:=Ej.out.1;have ZC:bn<bx:=by have:=Hbx.out;omega
     have Zp:bx<bl:=by have:=Hbx.out;have:=Ej.out;omega
     have US:su (y1,y2,y3):=hy.1;have hU:=hk.whole ZA.out (fun h=>by have:=XL.out;have:=Hb5.out;have:=ZA.out.lt;omega);have hLw:=hk.whole RI.out (fun h=>by have:=XL.out;have:=RI.out.lt;have:=Xe.out;have:=sV.out;omega);have c0:=hU.cell (i:=0) rfl;have c1:=hLw.cell (i:=0) rfl;have d0:=hY.cell (i:=0) rfl;have d1:=hY.cell (i:=1) rfl;have d2:=hY.cell (i:=2) rfl;have RZ:bt≠bf:=by have:=XL.out;omega
     have hqq:q+pre.length<Jap:=by have:=Hq.out;have:=Zi.out;have:=HNl.out;unfold Jap;omega
     have a8:pre.length<1000000:=by have:=HNl.out;omega
     have hbt:=XL.out.2.1;clear US;have US:=qh hy.1;simp only[dV]
     gi_wp2_with (first
      |(gi_at_mapUpdate
        refine Ko rfl _ _ _ rfl rfl Ys Tryz.underlying186 hqq US.out rfl rfl ?_;intro w1 KZ xL;have cP:=hb.grown xL (fun e=>by have:=Μ e;omega);have hY1:=hY.grown xL (fun e=>by have:=Μ e;omega);have XP:=ho.kept xL (.inr (fun e=>by have:=(ho.lt _ e).1;omega));have k0:=cP.cell (i:=0) rfl;have z0:=hY1.cell (i:=0) rfl;have z1:=hY1.cell (i:=1) rfl;have z2:=hY1.cell (i:=2) rfl;have aP:=cP.al (δ #[J y1,J y2,J y3] 32);have SJ:=XP.alloc (δ #[J y1,J y2,J y3] 32);have bj:=bD SJ aP (by decide);have an7:=xL.size)
      |(gi_at_builtin
        refine wpListIn_append_own _ rfl _ _ 57 rfl (bl+3) 32 i0 _ 3 24 Tryz.underlying57 Bz qJ ly kK rfl (by decide) _ _ _ rfl SJ ⟨w1.heap.size,0,ε⟩ 1 1 [J y1,J y2,J y3] rfl rfl (agI w1 y1 y2 y3) (by simp[Value.oneCell']) (by unfold Jap;omega) (by omega) (by simp;omega) ?_;intro v' w2 M3 yM _;obtain⟨g',YT,rfl⟩:=ownsRow_succ M3;have n1:=(aP.grown yM bj).cell (i:=0) rfl;have f1:=(aP.grown yM bj).free 0))
     have ZY:bm<bt:=Xe.out;have iQ:(pre++[(⟨(y1,y2,y3),hy⟩:D2)]).length=pre.length+1:=by simp
     have jd:aA ((pre++[(⟨(y1,y2,y3),hy⟩:D2)]).map (·.1))=aA (pre.map (·.1))++[J y1,J y2,J y3]:=by rw[JaU,fM];rfl
     have RM:=M3.lt g' rfl;have ry:∀r,(Ο A9 pre.length c9).ownBlock=ζ r→bl+3≤r:=fun r e=>(SJ.lt r e).1
     refine⟨(qA.grown xL (fun r e q=>by cases e;omega)).trans ((qA.grown (World.grownBy_alloc w1 _ ε) (fun r e=>by cases e)).trans ((qA.grown yM (fun r e q=>by have:=ry r e;omega)).trans (qA.grown (JbK _ _ _) (fun r e q=>by cases e;omega)))),?_⟩
     refine⟨(((hk.gr xL (fun k e=>by cases e;exact .inl rfl)).trans (Kept.of_below (az w1 _))).gr yM (fun k e=>.inr (.inr (by have:=ry k e;omega)))).gr (JbK _ _ _) (fun k e=>by cases e;exact .inr (.inl rfl)),⟨ζ ⟨g',0,ε⟩,YT,?_,?_⟩,_,_,((((KZ.mono (by rw[iQ];omega)).al _).grown yM (fun e=>by have:=ry bt e.symm;omega)).grown (JbK _ _ _) (fun e=>by have:=Μ e;omega)),fun y=>?_⟩
     ·rw[iQ];exact(aP.grown yM bj).set_ 0 _
     ·rw[iQ,jd];exact M3.kept (JbK _ _ _) (.inr (fun e=>by have e2:g'=bf:=Μ e;omega))
     ·have h9:=ff y;rw[JaU,Jan]
      by_cases e:y=(y1,y2,y3)
      ·subst e;simp
      ·rw[if_neg e,h9];have e2:¬y∈[(⟨(y1,y2,y3),hy⟩:D2)].map (·.1):=fun q=>e (Jao.1 q)
       simp only[e2,or_false]
    case done=>
     rintro ys W hS ⟨hk,⟨A9,c9,hb,ho⟩,ft9,St9,Ys,ff⟩ hKd;rw[Gu] at hKd ⊢;have RB:bf<bl:=by have:=Ej.out;omega
     have aeM:bm<bt:=Xe.out;have ZC:=XL.out;have Zp:=lZ.out;have ZY:=uD.out;have akA:b1<bm:=sV.out;have hlf:ys.length=(gJ (gi Vs) S.length (x1,x2,x3)).length:=by rw[←hS,Ρ]
     have Kx:ys.length≤1000000:=by have:=Ji (gi Vs) S.length (x1,x2,x3);have:=HNl.out;omega
     rw[hS] at ho;simp only[hS] at ff;have hFy:=Y2.out;rw[iY,if_neg Ln] at hFy;obtain⟨Fx,gFx⟩:=aB (gJ (gi Vs) S.length (x1,x2,x3));rw[gFx] at hlf ho ff hFy;rw[hlf] at hb ho Ys Kx;have nf:Hid (σ w.heap.size w W):=qh (Rh.out.trans (hk.below Rh.out.size (fun k h q=>by omega)));have HMw:Hid (cA W bm q0 (ux (gi Vs)) S):=qh (ZB.out.kept hk (fun q=>by omega));have HLw:Hid (Whole W b1 86 [γ Al l cl]):=qh (hk.whole RI.out (fun h=>by omega));have HUw:Hid (Whole W b5 186 [.map (ζ bt)]):=qh (hk.whole ZA.out (fun h=>by have:=Hb5.out;omega));have XE:Hid (W.ownsRow (W3.heap.size+1) 32 3 (γ (ζ ⟨bd,um,ε⟩) L.length cd) L.length (aA L)):=qh (th U2.out hk Td.out (fun g e=>(KU.out.2.2 g e).2) RB);have Xd:Hid (RowsIn W (b0+1) 57 32 3 lf Al l cl X):=qh ⟨th Sx.out.row hk Td.out (fun g e=>(KU.out.1 g e).2) RB,Sx.out.len,fun x hx=>th (Sx.out.one x hx) hk Td.out (fun g e=>(KU.out.2.1 x hx g e).2) RB,Sx.out.ne⟩
     have HKw:Hid (Marks W (b0+1) ({target:=.collected bl,args:=#[]}::ds)):=qh ((HKv.out.at_ (fun k h1 h2=>(hk.block k (Jaa.1 h2).1 (fun q=>by
      rcases q with q|q|q
      ·obtain⟨D,⟨es,clock,h3,_⟩,_⟩:=Td.out;rw[q,h3] at h2;cases h2
      ·have h3:V.heap[bf]? =_:=KX.out;rw[q,h3] at h2;cases h2
      ·have:=(Jaa.1 h2).1;omega)).trans h2)).push (by omega) hKd (fun e he q=>by
      obtain⟨k,e1,e2⟩:=HKv.out.lt e he;rw[e1] at q;injection q with q1
      injection q1 with q1
      omega))
     have HTw:Hid (cA W bt (q+Fx.length) ft9 St9):=qh Ys;have Sj:Hid (Whole W bf 57 [γ A9 Fx.length c9]):=qh hb;have HXw:Hid (W.ownsRow (bl+3) 32 3 (γ A9 Fx.length c9) Fx.length (aA Fx)):=qh ho;have YG:Hid (∀y,(ft9 y).isSome=τ↔y∈T++Fx):=qh (fun y=>by rw[ff y,Jan]);have HFz:=qh hFy;have Hnl:=qh Kx;clear hk hb ho Ys ff hKd hFy Kx hlf hS gFx Rh ZB Td RI ZA U2 Sx HKv KX eh ZO MF HA;have c0:=HLw.out.cell (i:=0) rfl;have c1:=Sj.out.cell (i:=0) rfl;go_upto_region 14 with fail
     clear ZC Zp ZY;refine wp_region_lit ?_;refine a7 (v:=?_) (ζ 41) rfl (by rfl) ?_ ?_;rotate_left
     ·go_simp;(try with_reducible rfl)
     simp only[ξ,aw,ar,aq];refine a7 (v:=?_) (ζ 42) rfl (by rfl) ?_ ?_;rotate_left
     ·go_simp;(try with_reducible rfl)
     simp only[ξ,aw,ar,aq];refine gS (ζ 43) rfl (by rfl) 86 57 1 #[(0,.tmp 42)] (by rfl) Tryz.underlying86 #[γ A9 Fx.length c9] (by kernel_rfl) ?_;simp only[ξ,aw,ar,aq];clear c0 c1
     obtain⟨A7,c7,W6,bV,hR6,oE,x7⟩:=(Xd.out.al (δ #[γ A9 Fx.length c9] 57)).push (P:=η) ((A9,c9,Fx):Rw D) (by have:=mi HXw.out (show b0+1≤bl+3 by have:=Ej.out;have:=XL.out;omega);rw[←OX] at this;exact this.alloc _)
      (fun y hy a b e1 e2=>by
        have q1:=(KU.out.2.1 y hy a.block (by rw[o7,e1];rfl)).2;have q2:=(HXw.out.lt b.block (by rw[show A9=ζ b from e2];rfl)).1;omega)
      86 86 iR _ Tryz.underlying86 hiR hr0 GS oJ rfl (by decide) (by have:=Hl.out;have:=Zi.out;omega) (by have:=nf.out.size;have:=lZ.out;simp;omega) (ζ ⟨W.heap.size,0,ε⟩) 1 (bg.of_whole (Whole.new2 rfl) rfl)
     refine pC (ζ 44) rfl (by rfl) (dt (by rfl) (by rfl) (by rfl) bV) ?_;simp only[ξ,aw,ar,aq];have n1:=bD (Xd.out.row.alloc (δ #[γ A9 Fx.length c9] 57)) (HLw.out.al (δ #[γ A9 Fx.length c9] 57)) (by decide);have n5:=bD (Xd.out.row.alloc (δ #[γ A9 Fx.length c9] 57)) (HUw.out.al (δ #[γ A9 Fx.length c9] 57)) (by decide);have ry:∀g,(Ο Al l cl).ownBlock=ζ g→∃cs,(W.alloc (δ #[γ A9 Fx.length c9] 57)).heap[g]? =ζ (δ cs 57 (0,0)):=fun g hg=>yR (Xd.out.row.alloc _) hg
     have s7:Hid (σ w.heap.size w W6):=qh ((aI nf.out (δ #[γ A9 Fx.length c9] 57)).grown x7 (by have:=nf.out.size;simp;omega) (fun k e=>by have:=(KU.out.1 k e).1;have:=lZ.out;omega));have Eb:=qh ((HMw.out.al (δ #[γ A9 Fx.length c9] 57)).grown x7 (fun e=>by obtain⟨cs,hc⟩:=ry bm e.symm;exact(HMw.out.al _).notcells hc));have vv:=qh ((HTw.out.al (δ #[γ A9 Fx.length c9] 57)).grown x7 (fun e=>by obtain⟨cs,hc⟩:=ry bt e.symm;exact(HTw.out.al _).notcells hc));have Ob:=qh ((HLw.out.al (δ #[γ A9 Fx.length c9] 57)).grown x7 n1);have HU6:=qh ((HUw.out.al (δ #[γ A9 Fx.length c9] 57)).grown x7 n5);have HO6:=qh ((XE.out.alloc (δ #[γ A9 Fx.length c9] 57)).kept x7 (.inr (fun e=>jM Xd.out.row XE.out (by decide) e.symm rfl)))
     have ki:Hid (Marks W6 (b0+1) ({target:=.collected bl,args:=#[]}::ds)):=qh (HKw.out.at_ (fun k h1 h2=>by
      have h3:(W.alloc (δ #[γ A9 Fx.length c9] 57)).heap[k]? =ζ (.deferred (ζ [])):=(Below.heap_alloc _ _ _ (Jaa.1 h2).1).trans h2
      refine(x7.block k (Jaa.1 h3).1 (fun e=>?_)).trans h3
      obtain⟨cs,hc⟩:=ry k e.symm;rw[hc] at h3;cases h3))
     have HR6:=qh hR6;clear bV hR6 oE x7 n1 n5 ry nf HMw HTw HLw HUw XE Xd HKw Sj HXw;have c1:=Ob.out.cell (i:=0) rfl;have f1:=Ob.out.free 0;have e1:Hid (b1≠b5):=qh (by have:=Hb5.out;have:=Xe.out;have:=sV.out;omega);have Hb1:Hid (w.heap.size≤b1):=qh (by have:=uD.out;omega);have tM:=qh (s7.out.setCell (p:=⟨b1,0,ε⟩) Hb1.out (γ A7 (l+1) c7));have WX:=qh (Eb.out.grown (JbK _ b1 (γ A7 (l+1) c7)) (fun e=>by have:=Μ e;have:=sV.out;omega));have HT7:=qh (vv.out.grown (JbK _ b1 (γ A7 (l+1) c7)) (fun e=>by have:=Μ e;have:=sV.out;have:=Xe.out;omega));have HL7:=qh (Ob.out.set_ 0 (γ A7 (l+1) c7));have Z8:=qh (HU6.out.grown (JbK _ b1 (γ A7 (l+1) c7)) (fun e=>e1.out (Μ e).symm));have YM:=qh (HO6.out.kept (JbK _ b1 (γ A7 (l+1) c7)) (.inr (fun e=>bD HO6.out Ob.out (by decide) e.symm)));have NT:=qh (HR6.out.far (JbK _ b1 (γ A7 (l+1) c7)) (fun g e q=>bD HR6.out.row Ob.out (by decide) (by rw[q,←e])) (fun y hy g e q=>bD (HR6.out.one y hy) Ob.out (by decide) (by rw[show(Ο y.1 y.2.2.length y.2.1).ownBlock=_ from q,←e])))
     have PE:=qh (ki.out.at_ (W':=W6.setCell ⟨b1,0,ε⟩ (γ A7 (l+1) c7)) (fun k h1 h2=>((JbK W6 b1 (γ A7 (l+1) c7)).block k (Jaa.1 h2).1 (fun e=>by
      have h3:W6.heap[b1]? =_:=Ob.out;rw[Μ e,h3] at h2;cases h2)).trans h2))
     clear s7 Eb vv Ob HU6 HO6 HR6 ki;go_wp2
     have fT:wrap64 ((i:Int)+1)=((i+1:Nat):Int):=by
      have:=Zi.out
      unfold wrap64;omega
     have HQ9:Hid (q+Fx.length≤(i+1)*1000000):=qh (by
      have h1:=Hq.out;have h2:=Hnl.out;generalize (1000000:Nat)=M at h1 h2 ⊢;rw[Nat.add_mul,Nat.one_mul];exact Nat.add_le_add h1 h2)
     rw[fT]
     refine⟨⟨_,_,_,_,_,_,_,_,_,_,_,_,_,_,_,_,_,_,_,_,_,_,i+1,q+Fx.length,l+1,c7,A7,ft9,St9,T++Fx,X++[((A9,c9,Fx):Rw D)],_::ds,?_,rfl,?_,?_,?_,?_,?_,?_,?_,?_,?_⟩,?_⟩
     ·exact jm
     ·exact tM
     ·exact WX
     ·exact qh ⟨HT7.out,HQ9.out,YG.out⟩
     ·exact HL7
     ·exact Z8
     ·exact YM
     ·exact qh ⟨NT.out,Nat.succ_le_succ Hl.out⟩
     ·exact qh (by rw[HFz.out,JaU,Jay];rfl)
     ·exact PE
     ·simp[intOf]
      first|done|exact jm|exact Nat.sub_lt_sub_left jm (Nat.lt_succ_self i)
    case stop=>
     rintro c' pre W _ h _;exact h.elim
  ·obtain rfl:L.length=i:=by omega
   have c0:=HL.out.cell (i:=0) rfl;go_wp2;have hFl:=HF.out;rw[List.drop_length] at hFl;have ry:=HR.out.1;have hlen:X.length=l:=ry.len;refine rO (V:=wr) (lo:=b0+1) (fun W' hS=>?_) ds wr (Shut.refl _ _) HMk.out
   refine⟨_,results_tmp rfl _ _ _,S,Al,cl,X,HKS.out,by rw[hlen];rfl,?_,?_,?_⟩
   ·rw[hlen,lZ.out];exact ry.at_ (fun g cs t fr _ hg _=>(hS.block g _ hg (.inr rfl)).trans hg.symm)
   ·rw[HGL.out,hFl];simp[iY]
   ·exact HB.out.trans (hS.below (by have:=lZ.out;omega))
end
section
variable {Vs:List VC} {Es:List EC}
theorem tP (h:aG Vs Es) {N:Nat} (hN:(ao Vs).length≤N):∀(l T:List D),(∀x∈l,x∈ao Vs)→iY (gi Vs) N l T=js (fQ Vs) 80 l T
 |[],_,_=>rfl
 |x::r,T,hl=>by
  have hx:=hl x (Jai ..);have hr:=fun y hy=>hl y (Jad _ hy)
  have e:gJ (gi Vs) N x=l9 (fQ Vs) x 80 x:=by
   rw[Lu h hN,kU,if_pos hx]
  rw[iY,js,tP h hN r _ hr,tP h hN r _ hr,e]
  by_cases q:x∈T
  ·rw[if_pos q,if_pos q]
  ·rw[if_neg q,if_neg q]
end
theorem L0 (a b:Int):uK (a,b,0) (a,b,1)<0:=by
 unfold uK jS;rw[if_pos ⟨rfl,rfl⟩];show qj 0 1<0;decide
theorem WU {a b:Int × Int} (h:xz a b<0) (s t:Int):uK (a.1,a.2,s) (b.1,b.2,t)<0:=by
 have bj:=IL h;unfold uK jS;rw[if_neg (fun q=>bj (Prod.ext q.1 q.2))];exact h
theorem DB:∀L:List EC,(L.map (·.1)).Pairwise (fun a b=>xz a b<0)→(qt L).Pairwise fun a b=>uK a b<0
 |[],_=>List.Pairwise.nil
 |e::r,h=>by
  rw[ι,JbM] at h
  have key:∀s,∀d∈qt r,uK (e.1.1,e.1.2,s) d<0:=fun s d hd=>by
   obtain⟨f,hf,h1,_⟩:=(Ik r d).1 hd
   have:=WU (h.1 f.1 (Α.2 ⟨f,hf,rfl⟩)) s d.2.2
   rw[h1] at this;exact this
  rw[BW,JbM,JbM]
  refine⟨fun d hd=>?_,key 1,DB r h.2⟩
  rcases Η.1 hd with rfl|hd
  ·exact L0 _ _
  ·exact key 0 d hd
section
variable {Vs:List VC} {Es:List EC}
theorem TN (Vs:List VC):qg Vs=ao Vs:=rfl
theorem aG.rise (h:aG Vs Es):(qt Es).Pairwise fun a b=>uK a b<0:=DB Es ((fS _ _).1 h.re).2.2
theorem aG.dsn (h:aG Vs Es):(qt Es).Nodup:=h.rise.imp (fun {a b} q e=>by subst e;have:=(oX a a).2 rfl;omega)
theorem FP (h:aG Vs Es):sortD (qg Vs)=qt Es:=by
 have hp:(qg Vs).Perm (qt Es):=(List.perm_ext_iff_of_nodup h.once h.dsn).2 fun d=>(h.ds d).symm
 refine List.Perm.eq_of_pairwise (le:=fun a b=>uK a b≤0) (fun a b _ _ h1 h2=>?_) ?_ (h.rise.imp (fun q=>by omega)) ((List.mergeSort_perm _ _).trans hp)
 ·have:=lU a b
  exact(oX a b).1 (by omega)
 ·have hl:∀a b:D,(!(ltOf uK) b a)=τ↔uK a b≤0:=fun a b=>by
   rw[Zx]
   have:=lU a b
   simp;omega
  refine(List.pairwise_mergeSort (le:=fun x y=>!(ltOf uK) y x) (fun a b c h1 h2=>?_) (fun a b=>?_) (qg Vs)).imp (fun {a b} q=>(hl a b).1 q)
  ·rw[hl] at*;exact tG _ _ _ h1 h2
  ·rw[Bool.or_eq_true,hl,hl]
   have:=lU a b
   omega
end
def On (L:List D) (d:D) (p:Nat):D:=if d∈L then L.getD ((L.idxOf d+p) % L.length) (0,0,0) else(0,0,0)
def tk (w:ο) (x:D) (ok:Bool) (e:Ending) (w':ο):Prop:=
 e=.returned (Ξ #[φ #[J x.1,J x.2.1,J x.2.2],Β ok])∧σ w.heap.size w w'
def rR (L:List D) (d:D):D:=On L d 1
theorem Ex (A:Option Κ) (n c:Nat) (L:List D) (d:D) (w:ο) (h:bg w w.heap.size 3 A n c (aA L)) (hn:n≤1000000):
 Ζ η 108 #[γ A n c,φ #[J d.1,J d.2.1,J d.2.2]] w (tk w (rR L d) (decide (d∈L))):=by
 have HI:=qh (fun W h=>oN A n c L d W h (by omega));have H:=qh h;have hl:=h.dlen
 by_cases hd:d∈L
 ·obtain⟨e1,e2⟩:=j3 hd;rw[e1] at HI;obtain⟨k,gk⟩:=aB (L.idxOf d);have PH:k<n:=by omega
  have hs:rR L d=L.getD ((k+1) % n) (0,0,0):=by rw[rR,On,if_pos hd,gk,hl]
  rw[gk] at HI e2;obtain⟨b,off,rfl,hb,hc⟩:=h.darts (by omega);have hj:(k+1) % n<n:=Nat.mod_lt _ (by omega);have Fq:((k:Int)+1) % (n:Int)=(((k+1) % n:Nat):Int):=by rw[Int.natCast_emod,Int.natCast_add];rfl
  obtain⟨j,gj⟩:=aB ((k+1) % n);rw[gj] at hs hj Fq;obtain⟨c1,c2,c3⟩:=hc j (by omega);obtain⟨x,gx⟩:=aB (L.getD j (0,0,0));rw[gx] at hs c1 c2 c3;rw[hs,decide_eq_true hd];have C1:=qh c1;have C2:=qh c2;have C3:=qh c3;clear hs gx gj hc hd gk e1 e2 h hl c1 c2 c3;go_enter Tryz.func108,Tryz.ntmps108
  go_wp2_with (first
   |(go_at_call 33;refine(HI.out _ (by exact H.out.up (cr _ _ _) (by simp<;>omega))).mono ?_;rintro e w2 ⟨rfl,aP⟩
     have HB:=qh (cW aP);have d1:=(HB.out.cell (p:=⟨b,off+j*3,ε⟩) hb).trans C1.out;have d2:=(HB.out.cell (p:=⟨b,off+j*3+1,ε⟩) hb).trans C2.out;have d3:=(HB.out.cell (p:=⟨b,off+j*3+2,ε⟩) hb).trans C3.out;have hz:=(Whole.new_ (w.alloc (δ #[J d.1,J d.2.1,J d.2.2] 32)) 32 [J 0,J 0,J 0]).below aP;simp only[JbF] at hz;have z0:=hz.cell (i:=0) rfl;have z1:=hz.cell (i:=1) rfl;have z2:=hz.cell (i:=2) rfl;have y0:=hz.free 0;have y1:=hz.free 1;have y2:=hz.free 2;clear aP hz))
  exact JaN (v:=Ξ #[φ #[J x.1,J x.2.1,J x.2.2],Β τ]) (by simp[results,Tryz.results108,go_sem,z0,z1,z2]) rfl ⟨rfl,((HB.out.setCell (by simp) _).setCell (by simp) _).setCell (by simp) _⟩
 ·have hs:rR L d=(0,0,0):=by rw[rR,On,if_neg hd]
  rw[lK hd] at HI;rw[hs,decide_eq_false hd];clear hs h hd hl;go_enter Tryz.func108,Tryz.ntmps108
  go_wp2_with (first
   |(go_at_call 33;refine(HI.out _ (by exact H.out.up (cr _ _ _) (by simp<;>omega))).mono ?_;rintro e w2 ⟨rfl,aP⟩
     have HB:=qh (cW aP);have hz:=(Whole.new_ (w.alloc (δ #[J d.1,J d.2.1,J d.2.2] 32)) 32 [J 0,J 0,J 0]).below aP;simp only[JbF] at hz;have z0:=hz.cell (i:=0) rfl;have z1:=hz.cell (i:=1) rfl;have z2:=hz.cell (i:=2) rfl;have y0:=hz.free 0;have y1:=hz.free 1;have y2:=hz.free 2;clear aP hz))
  exact JaN (v:=Ξ #[φ #[J 0,J 0,J 0],Β ρ]) (by simp[results,Tryz.results108,go_sem,z0,z1,z2]) rfl ⟨rfl,((HB.out.setCell (by simp) _).setCell (by simp) _).setCell (by simp) _⟩
def othW (d:D):D:=(d.1,d.2.1,Jaw.wrap (1 - d.2.2))
theorem RQ {d:D} (h:0≤d.2.2∧d.2.2≤1):othW d=dw d:=by
 unfold othW dw;rw[Jbb (1 - d.2.2) (by omega)]
theorem LJ {d:D} (h1:-9223372036854775808≤d.2.2∧d.2.2≤9223372036854775807) (h:¬(d.2.2=0∨d.2.2=1)):¬((othW d).2.2=0∨(othW d).2.2=1):=by
 show ¬(Jaw.wrap (1 - d.2.2)=0∨Jaw.wrap (1 - d.2.2)=1)
 by_cases q:d.2.2= -9223372036854775808
 ·rw[q];decide
 ·rw[IntWalk.i64_left];unfold wrap64;omega
section
variable {Vs:List VC} {Es:List EC}
theorem aG.othW (h:aG Vs Es) {d:D} (hb:-9223372036854775808≤d.2.2∧d.2.2≤9223372036854775807):(othW d∈ao Vs↔d∈ao Vs)∧(d∈ao Vs→othW d=dw d):=by
 have hs:∀{x:D},x∈ao Vs→x.2.2=0∨x.2.2=1:=fun hx=>by
  obtain⟨e,_,_,q⟩:=(h.mem _).1 hx;exact q
 by_cases q:d.2.2=0∨d.2.2=1
 ·have e:=RQ (d:=d) (by omega);rw[e];exact⟨h.ohs d,fun _=>rfl⟩
 ·exact⟨⟨fun hx=>(LJ hb q (hs hx)).elim,fun hx=>(q (hs hx)).elim⟩,fun hx=>(q (hs hx)).elim⟩
theorem Nt (h:aG Vs Es) (x:D):(x∈(eP Vs (lE Vs x).1).1.2.1.2.2.2↔x∈ao Vs)∧rR (eP Vs (lE Vs x).1).1.2.1.2.2.2 x=iO Vs x∧(lE Vs x).2=decide (x∈ao Vs):=by
 by_cases hx:x∈ao Vs
 ·obtain⟨v,hv,hr⟩:=cL.1 hx;have e1:=h.at hv hr
  have e2:eP Vs v.1=(v,τ):=by
   have hn:=dh h.rv;clear h hx e1 hr
   induction Vs with
   |nil=>cases hv
   |cons u r ih=>
    rw[ι,JaJ] at hn;rcases Η.1 hv with rfl|hv
    ·exact sE _ _ _ _ _ rfl
    ·have:¬u.1=v.1:=fun e=>hn.1 (e▸Α.2 ⟨v,hv,rfl⟩)
     exact(wP _ _ _ _ _ this).trans (ih hv hn.2)
  rw[e1]
  show(x∈(eP Vs v.1).1.2.1.2.2.2↔_)∧rR (eP Vs v.1).1.2.1.2.2.2 x=_∧τ=_
  rw[e2,ic h.once hv hr,decide_eq_true hx]
  refine⟨⟨fun _=>hx,fun _=>hr⟩,?_,rfl⟩
  show On _ _ 1=_;rw[On,if_pos hr];rfl
 ·have e1:lE Vs x=((0,0),ρ):=by
   unfold lE;rw[List.find?_eq_none.2 (fun v hv q=>hx (cL.2 ⟨v,hv,of_decide_eq_true q⟩))]
  have e2:eP Vs (0,0)=(zV,ρ):=by
   unfold eP KR
   rw[List.find?_eq_none.2 (fun v hv q=>by
    have h1:=((fS _ _).1 h.rv).1 v.1 (Α.2 ⟨v,hv,rfl⟩);have q1:v.1=(0,0):=of_decide_eq_true q;rw[q1] at h1;revert h1;decide)]
  rw[e1]
  show(x∈(eP Vs (0,0)).1.2.1.2.2.2↔_)∧rR (eP Vs (0,0)).1.2.1.2.2.2 x=_∧ρ=_
  rw[e2,iO,vf h.once hx,decide_eq_false hx];exact⟨⟨fun q=>(by cases q),fun q=>(hx q).elim⟩,rfl,rfl⟩
end
def abB:ψ→Nat
 |γ _ n _=>n
 |_=>0
theorem Ow.cell_ {w W:ο} {B size n g:Nat} {e:Υ} {v:ψ} {xs:List ψ} (h:Ow w B e size v n xs W) (bj:ζ g≠v.ownBlock) (hg:w.heap.size≤g) (i:Nat) (u:ψ):Ow w B e size v n xs (W.setCell ⟨g,i,ε⟩ u):=
 ⟨aT h.own bj u,h.below.setCell (p:=⟨g,i,ε⟩) hg u,h.lo,by simpa [World.setCell] using h.hi⟩
theorem LH {f:D→D} (x:D) (j:Nat):lA f x (j+1)=lA f x j++[fR f j x]:=by
 unfold lA;rw[List.range_succ,JaU];rfl
structure PR (w:ο) (lo:Nat) (At:Option Κ) (ct:Nat) (T:List D) (Al:Option Κ) (cl:Nat) (L:List D) (Ao:Option Κ) (co:Nat) (X:List (Rw D)) (W:ο):Prop where
 ow:Ow w lo 32 3 (γ At T.length ct) T.length (aA T) W
 l:W.ownsRow lo 32 3 (γ Al L.length cl) L.length (aA L)
 r:RowsIn W lo 57 32 3 lf Ao X.length co X
 nl:∀g,(Ο Al L.length cl).ownBlock=ζ g→(Ο At T.length ct).ownBlock≠ζ g
 nx:∀x∈X,∀g,(kX x).ownBlock=ζ g→(Ο At T.length ct).ownBlock≠ζ g
section
variable {w W W':ο} {lo:Nat} {At:Option Κ} {ct:Nat} {T:List D} {Al:Option Κ} {cl:Nat} {L:List D} {Ao:Option Κ} {co:Nat} {X:List (Rw D)}
theorem PR.up (h:PR w lo At ct T Al cl L Ao co X W) (hb:σ W.heap.size W W'):PR w lo At ct T Al cl L Ao co X W':=
 ⟨h.ow.up hb,bo h.l hb,h.r.up hb,h.nl,h.nx⟩
theorem PR.bl (h:PR w lo At ct T Al cl L Ao co X W) (hb:σ W.heap.size W W'):PR w lo At ct T Al cl L Ao co X W':=h.up hb
theorem PR.al (h:PR w lo At ct T Al cl L Ao co X W) (o:Obj):PR w lo At ct T Al cl L Ao co X (W.alloc o):=h.up (az W o)
theorem PR.dr (h:PR w lo At ct T Al cl L Ao co X W):PR w lo At ct T Al cl L Ao co X W.drew:=h.up ((Θ _ _).drew)
theorem PR.out (h:PR w lo At ct T Al cl L Ao co X W) (A9:Option Κ) (c9:Nat) (F:List D) (hf:W.ownsRow lo 32 3 (γ A9 F.length c9) F.length (aA F)) (hd:∀y∈X,∀a b,y.1=ζ a→A9=ζ b→a.block≠b.block)
 (ht:∀g,(Ο A9 F.length c9).ownBlock=ζ g→(Ο At T.length ct).ownBlock≠ζ g) (hn:X.length≤1000000) (A1:Option Κ) (c1:Nat) (hr:bg W W.heap.size 1 A1 1 c1 [γ A9 F.length c9]):
 ∃A' c' W',(JaY #[86,86] 86 #[γ Ao X.length co,γ A1 1 c1]).run η W=.ok (γ A' (X.length+1) c') W'∧PR w lo At ct T Al cl L A' c' (X++[(A9,c9,F)]) W'∧σ lo W W':=by
 obtain⟨iR,hiR,hr0,GS,oJ⟩:=aW yS;obtain⟨A',c',W2,bV,hR,hb,hg⟩:=h.r.push (P:=η) ((A9,c9,F):Rw D) (by rw[OX];exact hf) hd 86 86 iR _ Tryz.underlying86 hiR hr0 GS oJ rfl (by decide) hn h.ow.hi A1 c1 hr
 have hk:∀{v:ψ} {n:Nat} {xs:List ψ},W.ownsRow lo 32 3 v n xs→W2.ownsRow lo 32 3 v n xs:=fun {v n xs} ho=>ho.kept hg (by
  cases hv:v.ownBlock with
  |none=>exact .inl rfl
  |some g=>exact .inr fun q=>jM h.r.row ho (by decide) q.symm hv)
 have fw:∀k,(Ο Ao X.length co).ownBlock=ζ k→lo≤k:=fun k hk=>(h.r.row.lt k hk).1
 refine⟨A',c',W2,bV,⟨⟨hk h.ow.own,h.ow.below.grown hg h.ow.below.size (fun k e=>Λ h.ow.lo (fw k e)),h.ow.lo,Λ h.ow.hi hg.size⟩,hk h.l,?_,h.nl,fun x hx=>?_⟩,hb⟩
 ·rw[Ε];exact hR
 ·rcases Jan.1 hx with hx|hx
  ·exact h.nx x hx
  ·obtain rfl:=Jao.1 hx;exact ht
theorem PR.tell (h:PR w lo At ct T Al cl L Ao co X W) {A9:Option Κ} {c9:Nat} {F:List D} (hx:(A9,c9,F)∈X) (hn:T.length+F.length≤1000000):
 ∃A' c' W',(JaY #[57,57] 57 #[γ At T.length ct,γ A9 F.length c9]).run η W=.ok (.slice A' (T++F).length c') W'∧PR w lo A' c' (T++F) Al cl L Ao co X W'∧σ lo W W':=by
 obtain⟨i0,Bz,qJ,ly,kK⟩:=aW ju
 have hr:bg W W.heap.size 3 A9 F.length c9 (aA F):=by
  have:=aK (h.r.one _ hx)
  rw[OX] at this;exact this
 obtain⟨v,W2,bV,iC,hb,hg,ho⟩:=Ow.app2 (P:=η) 57 57 32 i0 _ 3 24 lo Tryz.underlying57 Bz qJ ly kK rfl (by decide) _ T.length _ h.ow _ A9 F.length c9 (aA F) hr (im F) (by unfold Jap;omega) (by omega);rw[←fM,←Ε] at iC;obtain⟨A',c',rfl,-⟩:=iC.rds
 have wN:∀{u:ψ} {n:Nat} {xs:List ψ},W.ownsRow lo 32 3 u n xs→(∀g,u.ownBlock=ζ g→(Ο At T.length ct).ownBlock≠ζ g)→∀g,u.ownBlock=ζ g→(Ο A' (T++F).length c').ownBlock≠ζ g:=fun {u n xs} hu bj g iZ q=>by
  rcases ho with e|e
  ·exact bj g iZ (e▸q)
  ·rw[e] at q
   have:=(hu.lt g iZ).2
   have:=Μ q
   omega
 refine⟨A',c',W2,bV,⟨iC,h.l.kept hg ?_,h.r.far hg (fun g e q=>jM h.r.row h.ow.own (by decide) q e) (fun x hx g e q=>h.nx x hx g q e),wN h.l h.nl,fun x hx=>wN (h.r.one x hx) (h.nx x hx)⟩,hb⟩
 cases hv:(Ο Al L.length cl).ownBlock with
 |none=>exact .inl rfl
 |some g=>exact .inr fun q=>h.nl g hv q.symm
end
structure Qk (lo:Nat) (A9:Option Κ) (c9:Nat) (F:List D) (W:ο):Prop where
 own:W.ownsRow lo 32 3 (γ A9 F.length c9) F.length (aA F)
theorem Qk.bl {lo:Nat} {A9:Option Κ} {c9:Nat} {F:List D} {W W':ο} (h:Qk lo A9 c9 F W) (hb:σ W.heap.size W W'):Qk lo A9 c9 F W':=⟨bo h.own hb⟩
structure ae8 (n:Nat) (Vs:List VC):Prop where
 n:n≤1000000
 r:∀x∈Vs,x.2.1.2.1≤1000000
 s:∀v∈Vs,∀d∈v.2.1.2.2.2,wfS d
 k:∀S,yt (gi Vs) S→S.length≤1000000
 l:(qg Vs).length≤1000000
theorem aG.pre {A:Option Κ} {n c:Nat} {Vs:List VC} {B:Option Κ} {m k:Nat} {Es:List EC} {w:ο} (hf:aG Vs Es) (h:bz w A n c Vs B m k Es) (hg:mG Vs Es):ae8 n Vs:=by
 have h8:=hf.l80;obtain⟨h1,h2,h3⟩:=hf.small h;exact⟨by omega,fun x hx=>by have:=h3 x hx;omega,fun v hv d hd=>hf.wfS hg (cL.2 ⟨v,hv,hd⟩),fun S hS=>by have:=hS.formed hf hg;omega,by rw[TN];omega⟩
theorem Ew (A:Option Κ) (n c:Nat) (Vs:List VC) (B:Option Κ) (m k:Nat) (Es:List EC) (w:ο) (h:bz w A n c Vs B m k Es) (hf:aG Vs Es) (hg:mG Vs Es):
 Ζ η 175 #[φ #[γ A n c,γ B m k]] w fun e w'=>∃A' c' X,e=.returned (γ A' X.length c')∧RowsIn w' (w.heap.size+1) 57 32 3 lf A' X.length c' X∧X.map (·.2.2)=js (fQ Vs) 80 (qt Es) []∧σ w.heap.size w w':=by
 have hp:=hf.pre h hg
 refine(I8 A n c Vs B m k Es w h hp.n hp.r hp.s hp.k hp.l).mono ?_
 rintro e w' ⟨S,A',c',X,hS,rfl,hR,hX,hb⟩;rw[FP hf,tP hf (by rw[hS.formed hf hg];exact Δ _) _ _ (fun x hx=>(hf.ds x).1 hx)] at hX;exact⟨A',c',X,rfl,hR,hX,hb⟩
def Ek (v:VC):Bool:=decide (v.2.1.2.2.2=[])
theorem xp {Vs:List VC} {j:Nat} {v:VC} (h:Vs[j]? =ζ v):((Vs.take (j+1)).filter Ek).length=((Vs.take j).filter Ek).length+if Ek v then 1 else 0:=by
 rw[Jbc,h,List.filter_append,Ε];congr 1;simp only[Option.toList_some,Jbm,List.filter_nil];split<;>rfl
theorem wA (Vs:List VC):bF Vs≤Vs.length:=List.length_filter_le _ _
theorem GD {v:VC} {rn:Nat} (h:v.2.1.2.2.2.length=rn):((rn:Int)==0)=Ek v:=by
 unfold Ek;cases hR:v.2.1.2.2.2 with
 |nil=>rw[hR] at h;subst h;rfl
 |cons a r=>
  rw[hR,JaH] at h;subst h;simp;omega
theorem agH (v:VC) (w:ο) (hr:v.2.1.2.2.2.length=v.2.1.2.1):Ζ η 174 #[φ (vC v).toArray] w fun e w'=>e=.returned (Β (Ek v))∧σ w.heap.size w w':=by
 have hb:=GD hr;obtain⟨b,gb⟩:=aB (Ek v);rw[gb] at hb ⊢;clear gb hr;obtain⟨⟨i1,i2⟩,⟨rA,rn,rc,rL⟩,lb,at_⟩:=v;replace hb:((rn:Int)==0)=b:=hb;show Ζ η 174 #[φ #[J i1,J i2,γ rA rn rc,μ lb,J at_]] w _;go_enter Tryz.func174,Tryz.ntmps174;go_wp2;exact JaN (v:=Β b) (by simp[results,Tryz.results174,go_sem,hb]) rfl ⟨rfl,az _ _⟩
theorem PW (A:Option Κ) (n c:Nat) (Vs:List VC) (w:ο) (h:bg w w.heap.size 5 A n c (ah vC Vs)) (hn:n≤1000000) (hr:∀v∈Vs,v.2.1.2.2.2.length=v.2.1.2.1):
 Ζ η 173 #[γ A n c,.func (.func 174) #[] #[]] w fun e w'=>e=.returned (J ((bF Vs:Nat):Int))∧σ w.heap.size w w':=by
 have hl:=h.rlen aS (by decide);have H:=qh h;have Hl:=qh hl;have Hr:=qh hr;have HE:=qh (nH (k:=174) Tryz.func174 (by kernel_rfl) rfl);have HG:Hid (bF Vs=((Vs.take n).filter Ek).length):=qh (by rw[Ι (by omega)];rfl);obtain⟨an,S5⟩:=aB (bF Vs);rw[S5] at HG ⊢;clear h hl hr S5;go_enter Tryz.func173,Tryz.ntmps173;go_wp2;go_loopw [5,10] (fun sn si wr=>∃(j q:Nat),j≤n∧si=J j∧sn=J (q:Int)∧Hid (σ w.heap.size w wr)∧Hid (((Vs.take j).filter Ek).length=q)) (fun _ si _=>n - (intOf si).toNat)
 case atStart=>exact⟨0,0,by omega,rfl,rfl,qh (Θ _ _),qh rfl⟩
 case round=>
  obtain⟨j,q,hj,rfl,rfl,HB,HQ⟩:=hrel
  have hqj:q≤j:=by
   have h1:=List.length_filter_le Ek (Vs.take j);rw[HQ.out,List.length_take] at h1;omega
  by_cases nT:j<n
  ·obtain⟨v,hx⟩:∃v,Vs[j]? =ζ v:=⟨_,θ (by have:=Hl.out;omega)⟩
   have tR:=xp hx;rw[HQ.out] at tR;have Cw:=fun W=>agH v W (Hr.out v (ω hx))
   obtain⟨b,gb⟩:=aB (Ek v);rw[gb] at Cw tR;obtain⟨bb,off,rfl,aY,a8⟩:=H.out.place aS (by decide) (by omega);have bC:=HB.out;have q0:=a8 j _ hx 0 _ rfl;have q1:=a8 j _ hx 1 _ rfl;have q2:=a8 j _ hx 2 _ rfl;have q3:=a8 j _ hx 3 _ rfl;have q4:=a8 j _ hx 4 _ rfl;simp only[Ν,Jac] at q0 q1 q2 q3 q4;have l0:=(bC.cell (p:=⟨bb,off+j*5,ε⟩) aY).trans q0;have l1:=(bC.cell (p:=⟨bb,off+j*5+1,ε⟩) aY).trans q1;have l2:=(bC.cell (p:=⟨bb,off+j*5+2,ε⟩) aY).trans q2;have l3:=(bC.cell (p:=⟨bb,off+j*5+3,ε⟩) aY).trans q3;have l4:=(bC.cell (p:=⟨bb,off+j*5+4,ε⟩) aY).trans q4;clear bC q0 q1 q2 q3 q4;obtain⟨⟨i1,i2⟩,⟨rA,rn,rc,rL⟩,lb,at_⟩:=v;replace Cw:∀W,Ζ η 174 #[φ #[J i1,J i2,γ rA rn rc,μ lb,J at_]] W fun e w'=>e=.returned (Β b)∧σ W.heap.size W w':=Cw
   have HC:=qh Cw;have TV:=qh tR;clear hx a8 Cw aY gb tR;go_wp2_with fail
   refine(HC.out _).mono ?_
   rintro e w3 ⟨rfl,bA⟩;have bB:Hid (σ w.heap.size w w3):=qh (ag (aI HB.out (δ #[J i1,J i2,γ rA rn rc,μ lb,J at_] 59)) bA);clear bA l0 l1 l2 l3 l4;cases b with
   |false=>
    go_wp2;go_roundw
    case rel=>exact⟨j+1,q,by omega,by go_num,rfl,bB,qh TV.out⟩
    case measure=>simp[intOf];omega
   |true=>
    have Xo:Jaw.wrap ((q:Int)+1)=((q+1:Nat):Int):=by rw[Jbb _ (by omega)];rfl
    go_wp2;go_roundw
    case rel=>exact⟨j+1,q+1,by omega,by go_num,by go_num,bB,qh TV.out⟩
    case measure=>simp[intOf];omega
  ·obtain rfl:n=j:=by omega
   have hq:q=an:=by rw[HG.out,HQ.out]
   subst hq;go_wp2;go_ret;exact⟨rfl,HB.out⟩
theorem Nn (A:Option Κ) (n c:Nat) (Vs:List VC) (B:Option Κ) (m k:Nat) (Es:List EC) (F C:Nat) (w:ο) (h:bz w A n c Vs B m k Es) (hn:n≤1000000) (hm:m≤1000000) (hF:F≤1000000) (hC:C≤1000000) (HF:∀W,bz W A n c Vs B m k Es→Ζ η 175 #[φ #[γ A n c,γ B m k]] W fun e w'=>∃A' c',e=.returned (γ A' F c')∧σ W.heap.size W w') (HC:∀W,bz W A n c Vs B m k Es→Ζ η 176 #[φ #[γ A n c,γ B m k]] W fun e w'=>e=.returned (J ((C:Nat):Int))∧σ W.heap.size W w'):
 Ζ η 164 #[φ #[γ A n c,γ B m k]] w fun e w'=>e=.returned (Ξ #[J (n:Int),J (m:Int),J ((F+bF Vs:Nat):Int),J (C:Int)])∧σ w.heap.size w w':=by
 have kH:=qh h;have hr:∀v∈Vs,v.2.1.2.2.2.length=v.2.1.2.1:=fun v hv=>(h.r v hv).2.dlen
 have EF:=qh (fun W (hv:bg W W.heap.size 5 A n c (ah vC Vs))=>PW A n c Vs W hv hn hr);have hl:=h.v.rlen aS (by decide);have rB:=wA Vs;rw[hl] at rB;obtain⟨an,S5⟩:=aB (bF Vs);rw[S5] at EF rB ⊢;have HFf:=qh HF;have HCc:=qh HC;obtain⟨ft,gft⟩:=aB (F+an);have ia:Jaw.wrap ((F:Int)+(an:Int))=(ft:Int):=by rw[Jbb _ (by omega)];omega
 rw[gft];clear gft;clear h hr hl S5 HF HC;go_enter Tryz.func164,Tryz.ntmps164;have rD:((w.alloc (δ #[γ A n c,γ B m k] 25))).cell? ⟨w.heap.size,0,ε⟩=ζ (γ A n c):=(show Whole (w.alloc (δ #[γ A n c,γ B m k] 25)) (w.heap.size) (25) ([γ A n c,γ B m k]) from Whole.new2 (by first|rfl|simp)).cell (i:=0) rfl;go_wp2_with fail
 clear rD
 refine(EF.out _ (bz.v (kH.out.al (δ #[γ A n c,γ B m k] 25)))).mono ?_
 rintro e w2 ⟨rfl,aP⟩;have aeP:=qh ((kH.out.al (δ #[γ A n c,γ B m k] 25)).bl aP);have ags:=qh ((show Whole (w.alloc (δ #[γ A n c,γ B m k] 25)) (w.heap.size) (25) ([γ A n c,γ B m k]) from Whole.new2 (by first|rfl|simp)).bl aP);have aa8:=qh (ag (aI (Θ _ w) (δ #[γ A n c,γ B m k] 25)) aP);clear kH;clear aP;go_upto_region 2 with fail
 have pD:=qh (aeP.out.dr);have mY:=qh (ags.out.dr);have jo:=qh (aN aa8.out);have yc:∀w',Kept aO w2.drew w'→w'.cell? ⟨w.heap.size,0,ε⟩=ζ (γ A n c):=fun w' h=>h.nil_cell (mY.out.cell (i:=0) rfl)
 have ld6:∀w',Kept aO w2.drew w'→w'.cell? ⟨w.heap.size,1,ε⟩=ζ (γ B m k):=fun w' h=>h.nil_cell (mY.out.cell (i:=1) rfl)
 refine ay aO (by kernel_rfl) ?_;refine aa 0 ?_;refine aa 1 ?_;refine aa 2 ?_;refine aa 3 ?_;refine aa 4 ?_;refine aa 5 ?_;refine aa 6 ?_;refine aa 9 ?_;refine aa 11 ?_;refine mw 7 ?_;intro w' aC
 refine(HFf.out _ (pD.out.bl aC)).mono ?_
 rintro e w7 ⟨A5,c5,rfl,nh⟩;have zZ:=qh ((pD.out.bl aC).bl nh);have Bd:=qh ((mY.out.bl aC).bl nh);have rS:=qh (ag (ag jo.out aC) nh);have ld8:=fun bW (h:Kept aO w7 bW)=>yc bW ((Kept.of_ext aC).trans ((Kept.of_below nh).trans h))
 have ld9:=fun bW (h:Kept aO w7 bW)=>ld6 bW ((Kept.of_ext aC).trans ((Kept.of_below nh).trans h))
 refine⟨_,rfl,Kept.of_below nh,?_⟩
 clear aC nh;simp only[ξ,aw,ar,aq];refine aa 8 ?_;refine aa 10 ?_;refine mw 12 ?_;intro w' aC
 refine(HCc.out _ (zZ.out.bl aC)).mono ?_
 rintro e Nw ⟨rfl,oD⟩;have Sr:=qh ((zZ.out.bl aC).bl oD);have Tn:=qh ((Bd.out.bl aC).bl oD);have Nl:=qh (ag (ag rS.out aC) oD);have am8:=fun bW (h:Kept aO Nw bW)=>ld8 bW ((Kept.of_ext aC).trans ((Kept.of_below oD).trans h))
 have alY:=fun bW (h:Kept aO Nw bW)=>ld9 bW ((Kept.of_ext aC).trans ((Kept.of_below oD).trans h))
 refine⟨_,rfl,Kept.of_below oD,?_⟩
 clear aC oD;simp only[ξ,aw,ar,aq];refine aa 13 ?_;refine aa 14 ?_;refine aa 15 ?_;refine aa 16 ?_;refine aF (by kernel_rfl) ?_ _;intro w13 aC;have ajt:=qh (Sr.out.bl aC);have ahU:=qh (Tn.out.bl aC);have VF:=qh (ag Nl.out aC);clear Sr Tn Nl;clear aC;go_wp2;exact JaN (v:=Ξ #[J (n:Int),J (m:Int),J (ft:Int),J (C:Int)]) (by simp[results,Tryz.results164,go_sem]) rfl ⟨rfl,VF.out⟩
theorem EH (A:Option Κ) (n c:Nat) (Vs:List VC) (B:Option Κ) (m k:Nat) (Es:List EC) (f C:Nat) (g:Int) (w:ο) (h:bz w A n c Vs B m k Es) (hn:n≤1000000) (hm:m≤1000000) (hf:f≤2000000) (hC:C≤1000000) (hg:(2*(C:Int) - n+m - f).tdiv 2=g)
 (HN:∀W,bz W A n c Vs B m k Es→Ζ η 164 #[φ #[γ A n c,γ B m k]] W fun e w'=>e=.returned (Ξ #[J (n:Int),J (m:Int),J (f:Int),J (C:Int)])∧σ W.heap.size W w'):
 Ζ η 149 #[φ #[γ A n c,γ B m k]] w fun e w'=>e=.returned (J g)∧σ w.heap.size w w':=by
 have kH:=qh h;have HNn:=qh HN;have h1:Jaw.wrap (2*(C:Int))=2*(C:Int):=Jbb _ (by omega);have h2:Jaw.wrap (2*(C:Int) - (n:Int))=2*(C:Int) - (n:Int):=Jbb _ (by omega);have h3:Jaw.wrap (2*(C:Int) - (n:Int)+(m:Int))=2*(C:Int) - (n:Int)+(m:Int):=Jbb _ (by omega);have h4:Jaw.wrap (2*(C:Int) - (n:Int)+(m:Int) - (f:Int))=2*(C:Int) - (n:Int)+(m:Int) - (f:Int):=Jbb _ (by omega)
 have hgb:-9223372036854775808≤g∧g≤9223372036854775807:=by
  rw[←hg];have q1:-(8000000:Int)≤(2*(C:Int) - n+m - f):=by omega
  have q2:(2*(C:Int) - n+m - f)≤8000000:=by omega
  generalize (2*(C:Int) - (n:Int)+m - f)=x at q1 q2;rcases Int.le_total 0 x with q|q
  ·rw[Jbp q];omega
  ·have e:x.tdiv 2= -((-x) / 2):=by rw[←Jbp (show(0:Int)≤-x by omega),Int.neg_tdiv,Int.neg_neg]
   rw[e];omega
 have h5:Jaw.wrap ((2*(C:Int) - (n:Int)+(m:Int) - (f:Int)).tdiv 2)=g:=by rw[hg];exact Jbb _ hgb
 clear h HN hg hgb;go_enter Tryz.func149,Tryz.ntmps149;have rD:((w.alloc (δ #[γ A n c,γ B m k] 25))).cell? ⟨w.heap.size,0,ε⟩=ζ (γ A n c):=(show Whole (w.alloc (δ #[γ A n c,γ B m k] 25)) (w.heap.size) (25) ([γ A n c,γ B m k]) from Whole.new2 (by first|rfl|simp)).cell (i:=0) rfl;have sW:((w.alloc (δ #[γ A n c,γ B m k] 25))).cell? ⟨w.heap.size,1,ε⟩=ζ (γ B m k):=(show Whole (w.alloc (δ #[γ A n c,γ B m k] 25)) (w.heap.size) (25) ([γ A n c,γ B m k]) from Whole.new2 (by first|rfl|simp)).cell (i:=1) rfl;go_wp2_with fail
 clear rD sW
 refine(HNn.out _ (kH.out.al (δ #[γ A n c,γ B m k] 25))).mono ?_
 rintro e w3 ⟨rfl,bA⟩;have pD:=qh ((kH.out.al (δ #[γ A n c,γ B m k] 25)).bl bA);have mY:=qh ((show Whole (w.alloc (δ #[γ A n c,γ B m k] 25)) (w.heap.size) (25) ([γ A n c,γ B m k]) from Whole.new2 (by first|rfl|simp)).bl bA);have jo:=qh (ag (aI (Θ _ w) (δ #[γ A n c,γ B m k] 25)) bA);clear kH;clear bA;go_wp2;go_ret;exact⟨by first|rfl|(rw[h5])|simp[h5],jo.out⟩
theorem I3 (A:Option Κ) (n c:Nat) (Vs:List VC) (B:Option Κ) (m k:Nat) (Es:List EC) (g:Int) (w:ο) (h:bz w A n c Vs B m k Es) (HG:∀W,bz W A n c Vs B m k Es→Ζ η 149 #[φ #[γ A n c,γ B m k]] W fun e w'=>e=.returned (J g)∧σ W.heap.size W w'):
 Ζ η 118 #[φ #[γ A n c,γ B m k]] w fun e w'=>e=.returned (Β (g==0))∧σ w.heap.size w w':=by
 have kH:=qh h;have XQ:=qh HG;obtain⟨b,gb⟩:=aB ((g==0));rw[gb];clear h HG;go_enter Tryz.func118,Tryz.ntmps118;have rD:((w.alloc (δ #[γ A n c,γ B m k] 25))).cell? ⟨w.heap.size,0,ε⟩=ζ (γ A n c):=(show Whole (w.alloc (δ #[γ A n c,γ B m k] 25)) (w.heap.size) (25) ([γ A n c,γ B m k]) from Whole.new2 (by first|rfl|simp)).cell (i:=0) rfl;have sW:((w.alloc (δ #[γ A n c,γ B m k] 25))).cell? ⟨w.heap.size,1,ε⟩=ζ (γ B m k):=(show Whole (w.alloc (δ #[γ A n c,γ B m k] 25)) (w.heap.size) (25) ([γ A n c,γ B m k]) from Whole.new2 (by first|rfl|simp)).cell (i:=1) rfl;go_wp2_with fail
 clear rD sW
 refine(XQ.out _ (kH.out.al (δ #[γ A n c,γ B m k] 25))).mono ?_
 rintro e w3 ⟨rfl,bA⟩;have pD:=qh ((kH.out.al (δ #[γ A n c,γ B m k] 25)).bl bA);have mY:=qh ((show Whole (w.alloc (δ #[γ A n c,γ B m k] 25)) (w.heap.size) (25) ([γ A n c,γ B m k]) from Whole.new2 (by first|rfl|simp)).bl bA);have jo:=qh (ag (aI (Θ _ w) (δ #[γ A n c,γ B m k] 25)) bA);clear kH;clear bA;go_wp2;go_ret;exact⟨by first|rfl|(rw[gb])|simp[gb],jo.out⟩
def eM (Vs:List VC) (Es:List EC):Int:=(2*((fg (dm Vs):Nat):Int) - Vs.length+Es.length - ((kp Vs Es+bF Vs:Nat):Int)).tdiv 2
def NX (Vs:List VC) (Es:List EC):Int:=if jZ Vs Es=0 then(if eM Vs Es=0 then 0 else 11) else jZ Vs Es
theorem nD {Vs:List VC} {Es:List EC} (h:aG Vs Es) {t:Nat} (e:2*fg (dm Vs)+Es.length=Vs.length+(kp Vs Es+bF Vs)+2*t):eM Vs Es=(t:Int):=by
 unfold eM
 have:(2*((fg (dm Vs):Nat):Int) - Vs.length+Es.length - ((kp Vs Es+bF Vs:Nat):Int))=2*(t:Int):=by omega
 rw[this,Jbp (by omega)];omega
section
variable {A:Option Κ} {n c:Nat} {Vs:List VC} {B:Option Κ} {m k:Nat} {Es:List EC}
theorem p8 (hf:aG Vs Es):kp Vs Es≤80:=by
 obtain⟨P,hP,e⟩:=iK hf;rw[e];have h1:=zH hP.nd hP.sub
 have:=hf.l80
 omega
theorem Ro (hf:aG Vs Es) (hg:mG Vs Es):∀W,bz W A n c Vs B m k Es→Ζ η 175 #[φ #[γ A n c,γ B m k]] W fun e w'=>∃A' c',e=.returned (γ A' (kp Vs Es) c')∧σ W.heap.size W w':=fun W h=>by
 refine(Ew A n c Vs B m k Es W h hf hg).mono ?_
 rintro e w' ⟨A',c',X,rfl,-,hX,hb⟩;have hl:=congrArg List.length hX;rw[Ρ] at hl;rw[hl];exact⟨A',c',rfl,hb⟩
theorem zT {w:ο} (h:bz w A n c Vs B m k Es):Vs.length=n∧Es.length=m:=⟨h.v.rlen aS (by decide),h.e.rlen bM (by decide)⟩
theorem nR (hf:aG Vs Es):fg (dm Vs)≤24:=by
 have:=VA Vs
 have:=hf.v24
 omega
theorem OJ (hf:aG Vs Es) (hg:mG Vs Es):∀W,bz W A n c Vs B m k Es→Ζ η 164 #[φ #[γ A n c,γ B m k]] W fun e w'=>e=.returned (Ξ #[J (n:Int),J (m:Int),J ((kp Vs Es+bF Vs:Nat):Int),J ((fg (dm Vs):Nat):Int)])∧σ W.heap.size W w':=fun W h=>by
 have hp:=hf.pre h hg;have h1:=hf.small h;exact Nn A n c Vs B m k Es (kp Vs Es) (fg (dm Vs)) W h hp.n (by omega) (by have:=p8 hf;omega) (by have:=nR hf;omega) (Ro hf hg) (fun W h=>Jw A n c Vs B m k Es W h hp.n hp.r hg.v)
theorem Io {w:ο} (h:bz w A n c Vs B m k Es):(2*((fg (dm Vs):Nat):Int) - (n:Int)+(m:Int) - ((kp Vs Es+bF Vs:Nat):Int)).tdiv 2=eM Vs Es:=by
 obtain⟨h1,h2⟩:=zT h;rw[eM,h1,h2]
theorem K6 (hf:aG Vs Es) (hg:mG Vs Es):∀W,bz W A n c Vs B m k Es→Ζ η 149 #[φ #[γ A n c,γ B m k]] W fun e w'=>e=.returned (J (eM Vs Es))∧σ W.heap.size W w':=fun W h=>by
 have hp:=hf.pre h hg;have h1:=hf.small h;have h2:=wA Vs;have h3:=(zT h).1;exact EH A n c Vs B m k Es (kp Vs Es+bF Vs) (fg (dm Vs)) (eM Vs Es) W h hp.n (by omega) (by have:=p8 hf;omega) (by have:=nR hf;omega) (Io h) (OJ hf hg)
theorem zr (hf:aG Vs Es) (hg:mG Vs Es):∀W,bz W A n c Vs B m k Es→Ζ η 118 #[φ #[γ A n c,γ B m k]] W fun e w'=>e=.returned (Β (eM Vs Es==0))∧σ W.heap.size W w':=fun W h=>
 I3 A n c Vs B m k Es (eM Vs Es) W h (K6 hf hg)
theorem EA (hr:∀x∈Vs,x.2.1.2.1≤1000000) (hg:mG Vs Es):∀W,bz W A n c Vs B m k Es→Ζ η 57 #[φ #[γ A n c,γ B m k]] W fun e w'=>e=.returned (J (jZ Vs Es))∧σ W.heap.size W w':=fun W h=>L8 Vs Es▸J6 A n c Vs B m k Es W h (fun x hx=>by have:=hr x hx;omega) hg.lv hg.le
end
theorem nZ {α β:Type} {g:α→β}:∀{L:List α},(L.map g).Nodup→L.Nodup
 |[],_=>List.nodup_nil
 |x::r,h=>by
  rw[ι,JaJ] at h;exact JaJ.2 ⟨fun q=>h.1 (Α.2 ⟨x,q,rfl⟩),nZ h.2⟩
def zX (Vs:List VC) (Fs:List EC):List Int:=Cu (Fs.map (uf Vs)) (lL Vs.length)
section
variable {Vs:List VC} {Es Fs:List EC}
theorem yD (h:aG Vs Es) (hs:∀e∈Fs,e∈Es):∀p∈Fs.map (uf Vs),p.1<Vs.length∧p.2<Vs.length:=fun p hp=>by
 obtain⟨e,he,rfl⟩:=Α.1 hp;obtain⟨h1,h2⟩:=h.ends (hs e he);exact⟨l7 h1,l7 h2⟩
theorem vp (h:aG Vs Es) (hs:∀e∈Fs,e∈Es):uN Vs.length (fun i j=>False∨(i,j)∈Fs.map (uf Vs)) (zX Vs Fs):=tt _ _ _ (yD h hs) (uN.up Vs.length)
theorem M7 (h:aG Vs Es) (hs:∀e∈Fs,e∈Es) {d:D} (hd:d∈ao Vs):(zX Vs Fs).getD (lx Vs (om Vs (Fs.map (·.1)) d)) 0=(zX Vs Fs).getD (lx Vs d) 0:=by
 rw[om,LG h.once (pZ h _ hd)];unfold qf;split
 ·rename_i q;obtain⟨e,he,e1⟩:=Α.1 q;have hm:uf Vs e∈Fs.map (uf Vs):=Α.2 ⟨e,he,rfl⟩;obtain⟨h1,h2⟩:=yD h hs _ hm;have hc:=(vp h hs).co (uf Vs e).1 (uf Vs e).2 h1 h2 (.inr hm);obtain⟨_,_,_,hs⟩:=(h.mem d).1 hd;obtain⟨a,b,c⟩:=d;simp only at hs e1;have ea:(uf Vs e).1=lx Vs (a,b,0):=by show lx Vs (e.1.1,e.1.2,0)=_;rw[e1]
  have eb:(uf Vs e).2=lx Vs (a,b,1):=by show lx Vs (e.1.1,e.1.2,1)=_;rw[e1]
  simp only[ea,eb] at hc;rcases hs with rfl|rfl
  ·exact hc.symm
  ·exact hc
 ·rfl
theorem Lf (h:aG Vs Es) (hs:∀e∈Fs,e∈Es) {x y:D} (hx:x∈ao Vs) (r:Rl (om Vs (Fs.map (·.1))) x y):(zX Vs Fs).getD (lx Vs y) 0=(zX Vs Fs).getD (lx Vs x) 0:=by
 obtain⟨i,rfl⟩:=r
 induction i with
 |zero=>rfl
 |succ i ih=>rw[dp,M7 h hs ((sS h _).it hx i),ih]
theorem vz (h:aG Vs Es) (hs:∀e∈Fs,e∈Es) {e:EC} (he:e∈Es) (kZ:e.1∉Fs.map (·.1)) {P:List D} {t:Nat} (hP:jW (om Vs (Fs.map (·.1))) (ao Vs) P) (hE:2*fg (zX Vs Fs)+Fs.length=Vs.length+P.length+bF Vs+2*t):
 ∃P' t',jW (om Vs ((Fs++[e]).map (·.1))) (ao Vs) P'∧2*fg (zX Vs (Fs++[e]))+(Fs++[e]).length=Vs.length+P'.length+bF Vs+2*t'∧(t'=t∨t'=t+1):=by
 obtain⟨m0,m1⟩:=h.ends he;have hp0:=l7 m0;have R2:=l7 m1;have el:((Fs++[e]).map (·.1))=Fs.map (·.1)++[e.1]:=by rw[JaU];rfl
 have adO:(e.1.1,e.1.2)∉Fs.map (·.1):=kZ;have a1:∀s,qf ((Fs++[e]).map (·.1)) (e.1.1,e.1.2,s)=dw (e.1.1,e.1.2,s):=fun s=>if_pos (by rw[el];exact Jan.2 (.inr (Jao.2 rfl)))
 have a2:∀s,qf (Fs.map (·.1)) (e.1.1,e.1.2,s)=(e.1.1,e.1.2,s):=fun s=>if_neg adO
 have bj:((e.1.1,e.1.2,0):D)≠(e.1.1,e.1.2,1):=fun q=>by simp at q
 obtain⟨P',Nh,h1,h2⟩:=zx (sS h (Fs.map (·.1))) (sS h ((Fs++[e]).map (·.1))) m0 m1 bj
  (by rw[om,om,a1,a2];rfl) (by rw[om,om,a1,a2];rfl) (fun z hz z0 z1=>by
    have:qf ((Fs++[e]).map (·.1)) z=qf (Fs.map (·.1)) z:=by
     unfold qf;rw[el]
     have kK:(z.1,z.2.1)≠e.1:=fun q=>by
      obtain⟨_,_,_,hs⟩:=(h.mem z).1 hz;obtain⟨a,b,c⟩:=z;simp only at hs q;rcases hs with rfl|rfl
      ·exact z0 (by rw[←q])
      ·exact z1 (by rw[←q])
     by_cases q:(z.1,z.2.1)∈Fs.map (·.1)
     ·rw[if_pos q,if_pos (Jan.2 (.inl q))]
     ·rw[if_neg q,if_neg (fun hm=>(Jan.1 hm).elim q (fun hm=>kK (Jao.1 hm)))]
    rw[om,om,this]) hP
 have hL:zX Vs (Fs++[e])=cR (zX Vs Fs) ((zX Vs Fs).getD (lx Vs (e.1.1,e.1.2,0)) 0) ((zX Vs Fs).getD (lx Vs (e.1.1,e.1.2,1)) 0):=by
  unfold zX Cu;rw[JaU,List.foldl_append];rfl
 have hlen:=(vp h hs).len;have hj:=DN (vp h hs).ok (p:=lx Vs (e.1.1,e.1.2,0)) (q:=lx Vs (e.1.1,e.1.2,1)) (by omega) (by omega);rw[←hL] at hj;have wN:(Fs++[e]).length=Fs.length+1:=by simp
 rw[wN]
 by_cases hr:Rl (om Vs (Fs.map (·.1))) (e.1.1,e.1.2,0) (e.1.1,e.1.2,1)
 ·rw[if_pos (Lf h hs m0 hr).symm] at hj
  have:=h1 hr
  exact⟨P',t,Nh,by omega,.inl rfl⟩
 ·have:=h2 hr
  by_cases hq:(zX Vs Fs).getD (lx Vs (e.1.1,e.1.2,0)) 0=(zX Vs Fs).getD (lx Vs (e.1.1,e.1.2,1)) 0
  ·rw[if_pos hq] at hj;exact⟨P',t+1,Nh,by omega,.inr rfl⟩
  ·rw[if_neg hq] at hj;exact⟨P',t,Nh,by omega,.inl rfl⟩
theorem zo (h:aG Vs Es):∀(k:Nat) (Fs:List EC),Fs.length=k→(∀e∈Fs,e∈Es)→(Fs.map (·.1)).Nodup→∃P t,jW (om Vs (Fs.map (·.1))) (ao Vs) P∧2*fg (zX Vs Fs)+Fs.length=Vs.length+P.length+bF Vs+2*t
 |0,Fs,hk,_,_=>by
  obtain rfl:Fs=[]:=List.eq_nil_of_length_eq_zero hk;obtain⟨P,t,hP,hE⟩:=tl h 0 (Nat.zero_le _);exact⟨P,t,hP,hE⟩
 |k+1,Fs,hk,hs,AK=>by
  have bj:Fs≠[]:=fun e=>by rw[e] at hk;cases hk
  obtain⟨Gs,e,rfl⟩:∃Gs e,Fs=Gs++[e]:=⟨Fs.dropLast,Fs.getLast bj,(List.dropLast_concat_getLast bj).symm⟩
  rw[JaU,JaL] at AK;obtain⟨P,t,hP,hE⟩:=zo h k Gs (by simpa using hk) (fun x hx=>hs x (Jan.2 (.inl hx))) AK.1;obtain⟨P',t',h1,h2,_⟩:=vz h (fun x hx=>hs x (Jan.2 (.inl hx))) (hs e (Jan.2 (.inr (Jao.2 rfl)))) (fun q=>AK.2.2 _ q _ (Jao.2 rfl) rfl) hP hE;exact⟨P',t',h1,h2⟩
theorem PQ (h:aG Vs Es) (hm:∀e,e∈Fs↔e∈Es):zX Vs Fs=dm Vs:=by
 rw[←zU h];have h1:=vp h (fun e he=>(hm e).1 he)
 have e1:(fun i j=>False∨(i,j)∈Fs.map (uf Vs))=(fun i j=>False∨(i,j)∈(Es.take Es.length).map (uf Vs)):=by
  funext i j
  rw[List.take_length];refine propext (or_congr Iff.rfl ?_);rw[Α,Α];exact⟨fun⟨e,he,q⟩=>⟨e,(hm e).1 he,q⟩,fun⟨e,he,q⟩=>⟨e,(hm e).2 he,q⟩⟩
 rw[e1] at h1;exact h1.uniq (rZ h Es.length)
theorem Qv (h:aG Vs Es) (hm:∀e,e∈Fs↔e∈Es) {d:D} (hd:d∈ao Vs):om Vs (Fs.map (·.1)) d=fQ Vs d:=by
 obtain⟨e,he,e1,_⟩:=(h.mem d).1 hd
 have:qf (Fs.map (·.1)) d=dw d:=if_pos (Α.2 ⟨e,(hm e).2 he,e1⟩)
 rw[om,this];rfl
theorem JQ (h:aG Vs Es) {Fs:List EC} {e:EC} (hm:∀x,x∈Fs++[e]↔x∈Es) (AK:((Fs++[e]).map (·.1)).Nodup):
 ∃P t,jW (om Vs (Fs.map (·.1))) (ao Vs) P∧2*fg (zX Vs Fs)+Fs.length=Vs.length+P.length+bF Vs+2*t∧(eM Vs Es=(t:Int)∨eM Vs Es=(t:Int)+1):=by
 have hs:∀x∈Fs,x∈Es:=fun x hx=>(hm x).1 (Jan.2 (.inl hx))
 have he:e∈Es:=(hm e).1 (Jan.2 (.inr (Jao.2 rfl)));rw[JaU,JaL] at AK;have kZ:e.1∉Fs.map (·.1):=fun q=>AK.2.2 _ q _ (Jao.2 rfl) rfl
 obtain⟨P,t,hP,hE⟩:=zo h _ Fs rfl hs AK.1;obtain⟨P',t',h1,h2,h3⟩:=vz h hs he kZ hP hE
 refine⟨P,t,hP,hE,?_⟩
 rw[PQ h hm] at h2;have h4:=h1.congr (sS h _) (fun x hx=>Qv h hm hx);obtain⟨P0,hP0,ef⟩:=iK h;have hl:=hP0.len h.phi h4
 have hlen:(Fs++[e]).length=Es.length:=by
  have n1:((Fs++[e]).map (·.1)).Nodup:=by rw[JaU,JaL];exact AK
  have n2:=nZ n1;have n3:=nZ (dh h.re);exact((List.perm_ext_iff_of_nodup n2 n3).2 hm).length_eq
 rw[hlen] at h2;have hg:=nD h (t:=t') (by omega);rw[hg];rcases h3 with rfl|rfl
 ·exact .inl rfl
 ·exact .inr (by omega)
end
theorem vQ {w:ο} {B s n c:Nat} {A:Option Κ} {xs:List ψ} (h:bg w B s A n c xs) {p:Κ} {v:ψ} (hp:w.cell? p=ζ v) (hv:¬v∈xs) (u:ψ):bg (w.setCell p u) B s A n c xs:=
 ⟨h.len,h.none_,h.le,h.low,fun a ha j z hz=>by
  have h1:=h.cell a ha j z hz
  by_cases e:p=a.add j
  ·rw[←e,hp] at h1;obtain rfl:=Μ h1;exact absurd (ω hz) hv
  ·rw[World.cell?_setCell_other _ _ _ _ e];exact h1⟩
theorem size_setCell (w:ο) (p:Κ) (u:ψ):(w.setCell p u).heap.size=w.heap.size:=by simp
theorem yT {α:Type} {f:α→List ψ}:∀{L:List α} {v:ψ},v∈ah f L→∃x∈L,v∈f x:=by
 intro L
 induction L with
 |nil=>intro v h;cases h
 |cons a r ih=>
  intro v h;rcases Jan.1 (show v∈f a++ah f r from h) with h|h
  ·exact⟨a,Jai ..,h⟩
  ·obtain⟨x,hx,h2⟩:=ih h;exact⟨x,Jad _ hx,h2⟩
theorem xo {Es:List EC} {A:Option Κ} {n c:Nat}:¬Ο A n c∈ah eC Es:=fun h=>by
 obtain⟨x,_,hx⟩:=yT h;simp[eC] at hx
theorem E4 {L:List D} {A:Option Κ} {n c:Nat}:¬Ο A n c∈aA L:=fun h=>by
 rw[lN] at h;obtain⟨x,_,hx⟩:=yT h;simp[dC] at hx
structure Wr (W:ο) (lo:Nat) (A:Option Κ) (n c:Nat) (Us:List VC) (B:Option Κ) (m k:Nat) (Es:List EC):Prop where
 v:W.ownsRow lo 59 5 (γ A n c) n (ah vC Us)
 e:bg W W.heap.size 4 B m k (ah eC Es)
 r:∀x∈Us,RgOk W x.2.1
section
variable {W W':ο} {lo:Nat} {A:Option Κ} {n c:Nat} {Us:List VC} {B:Option Κ} {m k:Nat} {Es:List EC}
theorem Cl.wr (h:Cl W lo A n c Us B m k Es):Wr W lo A n c Us B m k Es:=⟨h.v,h.dg.e,h.dg.r⟩
theorem Wr.dg (h:Wr W lo A n c Us B m k Es):bz W A n c Us B m k Es:=⟨aK h.v,h.e,h.r⟩
theorem Wr.bl (h:Wr W lo A n c Us B m k Es) (hb:σ W.heap.size W W'):Wr W' lo A n c Us B m k Es:=⟨bo h.v hb,h.e.bl hb,fun x hx=>(h.r x hx).bl hb⟩
theorem Wr.al (h:Wr W lo A n c Us B m k Es) (o:Obj):Wr (W.alloc o) lo A n c Us B m k Es:=h.bl (az W o)
theorem Wr.dr (h:Wr W lo A n c Us B m k Es):Wr W.drew lo A n c Us B m k Es:=h.bl ((Θ _ _).drew)
theorem IN {g i:Nat} {R:Rg} (h:RgOk W R) {A1:Option Κ} {n1 c1:Nat} (hp:W.cell? ⟨g,i,ε⟩=ζ (γ A1 n1 c1)) (u:ψ):RgOk (W.setCell ⟨g,i,ε⟩ u) R:=
 ⟨h.1,by rw[size_setCell];exact vQ h.2 hp E4 u⟩
theorem Wr.far (h:Wr W lo A n c Us B m k Es) {g i:Nat} {A1:Option Κ} {n1 c1:Nat} (hp:W.cell? ⟨g,i,ε⟩=ζ (γ A1 n1 c1)) (hg:∀a,A=ζ a→g≠a.block) (u:ψ):Wr (W.setCell ⟨g,i,ε⟩ u) lo A n c Us B m k Es:=
 ⟨aT h.v (fun e=>by
  cases A with
  |none=>cases e
  |some a=>
   exact hg a rfl (Μ e)) u,by rw[size_setCell];exact vQ h.e hp xo u,fun x hx=>IN (h.r x hx) hp u⟩
theorem Wr.put (h:Wr W lo A n c Us B m k Es) {j:Nat} {x:VC} (hx:Us[j]? =ζ x) (hj:j<n) (R:Rg) (hR:RgOk W R):
 ∃g,A=ζ ⟨g,0,ε⟩∧lo≤g∧(∃cs,Whole W g 59 cs)∧W.cell? ⟨g,j*5+2,ε⟩=ζ (γ x.2.1.1 x.2.1.2.1 x.2.1.2.2.1)∧W.frozen? ⟨g,j*5+2,ε⟩=ρ∧
  Wr (W.setCell ⟨g,j*5+2,ε⟩ (γ R.1 R.2.1 R.2.2.1)) lo A n c (Us.set j (x.1,R,x.2.2)) B m k Es:=by
 obtain⟨g,junk,e,fw,hw,hc,hf,ho⟩:=eZ (i:=2) (y:=(x.1,R,x.2.2)) (u:=γ R.1 R.2.1 R.2.2.1) aS h.v hx hj (by omega) rfl;have qB:W.cell? ⟨g,j*5+2,ε⟩=ζ (γ x.2.1.1 x.2.1.2.1 x.2.1.2.2.1):=hc.trans rfl
 refine⟨g,e,fw,⟨_,hw⟩,qB,hf,ho,by rw[size_setCell];exact vQ h.e qB xo _,fun y hy=>IN ?_ qB _⟩
 rcases List.mem_or_eq_of_mem_set hy with hy|rfl
 ·exact h.r y hy
 ·exact hR
end
theorem Ev:(η.info? 32).map (fun i=>(i.zero,i.size,i.bytes))=ζ (ζ (φ #[J 0,J 0,J 0]),3,24):=by kernel_rfl
theorem sM {W:ο} {B B' n:Nat} {e:Υ} {size:Nat} {v:ψ} {xs:List ψ} (h:W.ownsRow B e size v n xs) (hB:B'≤B):W.ownsRow B' e size v n xs:=by
 refine⟨h.1,?_⟩
 rcases h.2 with hn|⟨g,cap,cur,h1,hb,rest⟩
 ·exact .inl hn
 ·exact .inr ⟨g,cap,cur,h1,Λ hB hb,rest⟩
theorem vD {P:Program} (W:ο) (t ty e:Υ) (i:TypeInfo) (z:ψ) (size bytes:Nat) (ht:P.underlying t=ζ (.slice e)) (hi:P.info? e=ζ i) (hz:i.zero=ζ z) (fK:i.size=size) (vA:i.bytes=bytes) (vK:z.cells.size=size) (Ye:0<size)
 (A:Option Κ) (m c:Nat) (news:List ψ) (hr:bg W W.heap.size size A m c news) (h1:∀u∈news,u.oneCell'=τ) (hm:m≤1000000) (hb:bytes≤100):
 ∃A' c' W',(JaY #[t,t] ty #[γ (ζ ⟨W.heap.size,0,ε⟩) 0 0,γ A m c]).run P (W.alloc (δ #[] e))=.ok (γ A' m c') W'∧W'.ownsRow W.heap.size e size (γ A' m c') m news∧σ W.heap.size W W':=by
 have iC:Ow W W.heap.size e size (γ (ζ ⟨W.heap.size,0,ε⟩) 0 0) 0 [] (W.alloc (δ #[] e)):=⟨World.ownsRow_made W #[] 0 (Δ _) (Nat.zero_le _) (by simp),aI (Θ _ W) _,Δ _,by simp⟩;have Vd:(0+m)*bytes≤140737488355328:=Λ (Nat.mul_le_mul_left _ hb) (by omega);obtain⟨v',W',bV,ho,aP,hg,-⟩:=Ow.app2 (P:=P) t ty e i z size bytes W.heap.size ht hi hz fK vA vK Ye _ _ _ iC _ A m c news (hr.al (δ #[] e)) h1 (by unfold Jap;omega) Vd;rw[JaI,JaF] at ho;obtain⟨A',c',rfl,-⟩:=ho.rds;exact⟨A',c',W',bV,ho.own,ho.below⟩
structure uz (W:ο) (lo:Nat) (A:Option Κ) (n c:Nat) (Ws:List VC) (B:Option Κ) (m k:Nat) (Es:List EC):Prop where
 v:W.ownsRow lo 59 5 (γ A n c) n (ah vC Ws)
 e:W.ownsRow lo 67 4 (γ B m k) m (ah eC Es)
 r:∀x∈Ws,W.ownsRow lo 32 3 (γ x.2.1.1 x.2.1.2.1 x.2.1.2.2.1) x.2.1.2.1 (aA x.2.1.2.2.2)
section
variable {W W':ο} {lo:Nat} {A:Option Κ} {n c:Nat} {Ws:List VC} {B:Option Κ} {m k:Nat} {Es:List EC}
theorem uz.bl (h:uz W lo A n c Ws B m k Es) (hb:σ W.heap.size W W'):uz W' lo A n c Ws B m k Es:=⟨bo h.v hb,bo h.e hb,fun x hx=>bo (h.r x hx) hb⟩
theorem uz.al (h:uz W lo A n c Ws B m k Es) (o:Obj):uz (W.alloc o) lo A n c Ws B m k Es:=h.bl (az W o)
theorem uz.wr (h:uz W lo A n c Ws B m k Es):Wr W lo A n c Ws B m k Es:=⟨h.v,aK h.e,fun x hx=>⟨nB (h.r x hx),aK (h.r x hx)⟩⟩
theorem uz.far (h:uz W lo A n c Ws B m k Es) {g i:Nat} {T:Υ} {cs:List ψ} (hw:Whole W g T cs) (h1:T≠59) (h2:T≠67) (h3:T≠32) (u:ψ):uz (W.setCell ⟨g,i,ε⟩ u) lo A n c Ws B m k Es:=
 ⟨aT h.v (bD h.v hw h1) u,aT h.e (bD h.e hw h2) u,fun x hx=>aT (h.r x hx) (bD (h.r x hx) hw h3) u⟩
theorem uz.far2 (h:uz W lo A n c Ws B m k Es) {g i:Nat} {cs:List ψ} (hw:Whole W g 59 cs) (hv:ζ g≠(Ο A n c).ownBlock) (u:ψ):uz (W.setCell ⟨g,i,ε⟩ u) lo A n c Ws B m k Es:=
 ⟨aT h.v hv u,aT h.e (bD h.e hw (by decide)) u,fun x hx=>aT (h.r x hx) (bD (h.r x hx) hw (by decide)) u⟩
theorem uz.lo_ (h:uz W lo A n c Ws B m k Es) {lo':Nat} (hl:lo'≤lo):uz W lo' A n c Ws B m k Es:=by
 have q:∀{e:Υ} {s:Nat} {v:ψ} {j:Nat} {xs:List ψ},W.ownsRow lo e s v j xs→W.ownsRow lo' e s v j xs:=fun h=>by
  refine⟨h.1,?_⟩
  rcases h.2 with hn|⟨g,cap,cur,h1,hb,rest⟩
  ·exact .inl hn
  ·exact .inr ⟨g,cap,cur,h1,Λ hl hb,rest⟩
 exact⟨q h.v,q h.e,fun x hx=>q (h.r x hx)⟩
theorem uz.push {P:Program} (h:uz W lo A n c Ws B m k Es) (x:VC) (hx:W.ownsRow lo 32 3 (γ x.2.1.1 x.2.1.2.1 x.2.1.2.2.1) x.2.1.2.1 (aA x.2.1.2.2.2)) (t ty:Υ) (i:TypeInfo) (z:ψ) (ht:P.underlying t=ζ (.slice 59)) (hi:P.info? 59=ζ i) (hz:i.zero=ζ z) (fK:i.size=5) (vA:i.bytes=64) (vK:z.cells.size=5)
 (hn:n≤1000000) (fw:lo≤W.heap.size) (g:Nat) (hr:bg W W.heap.size 5 (ζ ⟨g,0,ε⟩) 1 1 (vC x)):
 ∃A' c' W',(JaY #[t,t] ty #[γ A n c,γ (ζ ⟨g,0,ε⟩) 1 1]).run P W=.ok (γ A' (n+1) c') W'∧uz W' lo A' (n+1) c' (Ws++[x]) B m k Es∧σ lo W W'∧W.grownBy W' (Ο A n c).ownBlock:=by
 obtain⟨v',W2,bV,gh,hg,FZ,hb⟩:=run_append_own_at (P:=P) W lo t ty 59 i z 5 64 ht hi hz fK vA vK (by decide) _ n _ h.v ⟨g,0,ε⟩ 1 1 _ hr.len (hr.cell _ rfl) (nQ x) (by unfold Jap;omega) (by omega) fw;have hk:∀k,(Ο A n c).ownBlock=ζ k→lo≤k:=fun k hk=>(h.v.lt k hk).1
 obtain⟨A',c',rfl,_⟩:=bg.of_own gh;have e:ah vC Ws++vC x=ah vC (Ws++[x]):=by rw[bY];simp[ah]
 rw[e] at gh
 have keep:∀{T:Υ} {s:Nat} {v:ψ} {j:Nat} {xs:List ψ},W.ownsRow lo T s v j xs→59≠T→W2.ownsRow lo T s v j xs:=fun {T s v j xs} ho hT=>ho.kept hg (by
  cases hv:v.ownBlock with
  |none=>exact .inl rfl
  |some g=>exact .inr fun q=>jM h.v ho hT q.symm hv)
 refine⟨A',c',W2,bV,⟨gh,keep h.e (by decide),fun y hy=>?_⟩,(Θ lo W).grown hg fw hk,hg⟩
 rcases Jan.1 hy with hy|hy
 ·exact keep (h.r y hy) (by decide)
 ·obtain rfl:=Jao.1 hy;exact keep hx (by decide)
end
theorem Gd (A:Option Κ) (n c:Nat) (Vs:List VC) (B:Option Κ) (m k:Nat) (Es:List EC) (w:ο) (h:bz w A n c Vs B m k Es) (hn:n≤1000000) (hm:m≤1000000) (hr:∀x∈Vs,x.2.1.2.1≤1000000):
 Ζ η 23 #[φ #[γ A n c,γ B m k]] w fun e w'=>∃A' c' B' k' Ws,e=.returned (φ #[γ A' n c',γ B' m k'])∧uz w' w.heap.size A' n c' Ws B' m k' Es∧Ws.map vS=Vs.map vS∧σ w.heap.size w w':=by
 have HV:=qh h.v;have HE:=qh h.e;have sw:=qh h.r;have oG:=qh (h.v.rlen aS (by decide));have AL:=qh hr;obtain⟨iV,hiv,ag3,af0,adP⟩:=aW lP;obtain⟨iE,Ic,acQ,aep,adF⟩:=aW pK;obtain⟨iD,hid,agx,ad4,adS⟩:=aW Ev;clear h hr;go_enter Tryz.func23,Tryz.ntmps23;go_upto_region 1 with fail
 obtain⟨W0,b0,b1,bO,bp,dE,aQ,aL,bw,mQ,lZ,oa,uD,iP,uW⟩:=wT w 25 [γ A n c,γ B m k] 25 [γ ε 0 0,γ ε 0 0];rw[bO,dE,bp];clear bO bp dE;obtain⟨Be,ke,W1,bV,Ke,UG⟩:=vD (P:=η) W0 23 23 67 iE _ 4 40 Tryz.underlying23 Ic acQ aep adF rfl (by decide) B m k _ (HE.out.bl bw.out) (p7 eC nr Es) hm (by decide);have c1:=(aQ.out.al (δ #[] 67)).cell (i:=1) rfl
 go_wp2_with (first
  |(at_builtin
    refine pC (ζ 9) rfl (by rfl) (dt (by rfl) (by rfl) (by rfl) bV) ?_))
 have eF:=qh ((aQ.out.bl UG).al (δ #[γ ε 0 0,γ Be m ke] 25));have cK:=qh ((aL.out.bl UG).al (δ #[γ ε 0 0,γ Be m ke] 25));have Dz:=qh (Whole.new2 (w:=W1) (t:=25) (cs:=[γ ε 0 0,γ Be m ke]) rfl);have bE:=qh (aI (ag bw.out UG) (δ #[γ ε 0 0,γ Be m ke] 25));have EF:Hid (uz (W1.alloc (δ #[γ ε 0 0,γ Be m ke] 25)) w.heap.size ε 0 0 [] Be m ke Es):=qh ⟨World.ownsRow_nil _ _ _ _,bo (sM Ke bw.out.size) (az _ _),fun x hx=>(by cases hx)⟩;have Hb3:Hid (w.heap.size≤W1.heap.size):=qh (by have:=bw.out.size;have:=UG.size;omega);have aax:Hid (b0≠W1.heap.size):=qh (by have:=(aQ.out.bl UG).lt;omega);have ZU:Hid (b1≠W1.heap.size):=qh (by have:=(aL.out.bl UG).lt;omega);clear bV Ke UG c1;obtain⟨W2,eU⟩:=aB (W1.alloc (δ #[γ ε 0 0,γ Be m ke] 25));obtain⟨b3,Z6⟩:=aB W1.heap.size;rw[eU] at eF cK Dz bE EF ⊢;rw[Z6] at Dz Hb3 aax ZU ⊢;clear eU Z6 aQ aL bw mQ;go_loopw [4] (fun si wr=>∃(j:Nat) (A2:Option Κ) (c2:Nat) (Ws:List VC),j≤n∧si=J j∧Hid (σ w.heap.size w wr)∧Hid (Whole wr b0 25 [γ A n c,γ B m k])∧Hid (Whole wr b1 25 [γ ε 0 0,γ ε 0 0])∧Hid (Whole wr b3 25 [γ A2 j c2,γ Be m ke])∧Hid (uz wr w.heap.size A2 j c2 Ws Be m ke Es)∧Hid (Ws.map vS=(Vs.take j).map vS)) (fun si _=>n - (intOf si).toNat)
 case atStart=>exact⟨0,ε,0,[],by omega,rfl,bE,eF,cK,Dz,EF,qh rfl⟩
 case round=>
  clear bE eF cK Dz EF;obtain⟨j,A2,c2,Ws,hj,rfl,HB,aQ,aL,cF,HC,HM⟩:=hrel;obtain⟨wo,cS⟩:=aB wr;rw[cS] at HB aQ aL cF HC ⊢;clear cS;have cb:=aQ.out.cell (i:=0) rfl
  by_cases nT:j<n
  ·obtain⟨v,hx⟩:∃v,Vs[j]? =ζ v:=⟨_,θ (by have:=oG.out;omega)⟩
   have hMn:(Vs.take (j+1)).map vS=(Vs.take j).map vS++[vS v]:=by
    rw[Jbc,hx];simp
   have xM:=ω hx;have uH:=sw.out v xM;have kc:=AL.out v xM;obtain⟨bb,off,rfl,aY,a8⟩:=HV.out.place aS (by decide) (by omega);have bC:=HB.out;have q0:=a8 j _ hx 0 _ rfl;have q1:=a8 j _ hx 1 _ rfl;have q2:=a8 j _ hx 2 _ rfl;have q3:=a8 j _ hx 3 _ rfl;have q4:=a8 j _ hx 4 _ rfl;simp only[Ν,Jac] at q0 q1 q2 q3 q4;have l0:=(bC.cell (p:=⟨bb,off+j*5,ε⟩) aY).trans q0;have l1:=(bC.cell (p:=⟨bb,off+j*5+1,ε⟩) aY).trans q1;have l2:=(bC.cell (p:=⟨bb,off+j*5+2,ε⟩) aY).trans q2;have l3:=(bC.cell (p:=⟨bb,off+j*5+3,ε⟩) aY).trans q3;have l4:=(bC.cell (p:=⟨bb,off+j*5+4,ε⟩) aY).trans q4;clear bC q0 q1 q2 q3 q4;obtain⟨⟨i1,i2⟩,⟨rA,rn,rc,rL⟩,lb,at_⟩:=v;replace kc:rn≤1000000:=kc;have HR:Hid (bg w w.heap.size 3 rA rn rc (aA rL)):=qh uH.2;have HMn:=qh hMn;clear hx hMn xM uH aY a8;go_upto_region 6 with fail
   clear cb l0 l1 l2 l3 l4;have bE:=qh (aI HB.out (δ #[J i1,J i2,γ rA rn rc,μ lb,J at_] 59));have eF:=qh (aQ.out.al (δ #[J i1,J i2,γ rA rn rc,μ lb,J at_] 59));have cK:=qh (aL.out.al (δ #[J i1,J i2,γ rA rn rc,μ lb,J at_] 59));have Dz:=qh (cF.out.al (δ #[J i1,J i2,γ rA rn rc,μ lb,J at_] 59));have EF:=qh (HC.out.al (δ #[J i1,J i2,γ rA rn rc,μ lb,J at_] 59));have mZ:=qh (Whole.new2 (w:=wo) (t:=59) (cs:=[J i1,J i2,γ rA rn rc,μ lb,J at_]) rfl);have HLy:Hid (w.heap.size≤wo.heap.size):=qh HB.out.size;have Hnv:Hid (ζ wo.heap.size≠(Ο A2 j c2).ownBlock):=qh (fun e=>by have:=(HC.out.v.lt _ e.symm).2;omega);obtain⟨W3,kh⟩:=aB (wo.alloc (δ #[J i1,J i2,γ rA rn rc,μ lb,J at_] 59));obtain⟨b5,FU⟩:=aB wo.heap.size;rw[kh] at bE eF cK Dz EF mZ ⊢;rw[FU] at mZ HLy Hnv ⊢;clear kh FU HB aQ aL cF HC;obtain⟨A8,c8,W4,bV,hor,QU⟩:=vD (P:=η) W3 57 57 32 iD _ 3 24 Tryz.underlying57 hid agx ad4 adS rfl (by decide) rA rn rc _ (HR.out.up bE.out bE.out.size) (im rL) kc (by decide);have d2:=(mZ.out.al (δ #[] 32)).cell (i:=2) rfl;have e2:=(mZ.out.bl QU).cell (i:=2) rfl;have f2:=(mZ.out.bl QU).free 2
   go_upto_region 7 with (first
    |(at_builtin
      refine pC (ζ 26) rfl (by rfl) (dt (by rfl) (by rfl) (by rfl) bV) ?_))
   clear d2 e2 f2;have FA:=qh (mZ.out.bl QU);have Um:=qh (eF.out.bl QU);have mN:=qh (cK.out.bl QU);have Ul:=qh (Dz.out.bl QU);have kC:=qh (ag bE.out QU);have HC4:=qh (EF.out.bl QU);have KQ:=qh (sM hor bE.out.size);clear bV hor QU bE eF cK Dz EF mZ;have TI:=qh (FA.out.set_ 2 (γ A8 rn c8));have Rn:=qh (Um.out.set_far' (i:=2) (Um.out.ne_ FA.out (by decide)) (γ A8 rn c8));have RP:=qh (mN.out.set_far' (i:=2) (mN.out.ne_ FA.out (by decide)) (γ A8 rn c8));have ND:=qh (Ul.out.set_far' (i:=2) (Ul.out.ne_ FA.out (by decide)) (γ A8 rn c8));have kF:=qh (kC.out.setCell (p:=⟨b5,2,ε⟩) HLy.out (γ A8 rn c8));have XU:=qh (HC4.out.far2 (i:=2) FA.out Hnv.out (γ A8 rn c8));have BE:=qh (aT (i:=2) KQ.out (bD KQ.out FA.out (by decide)) (γ A8 rn c8));obtain⟨W5,sC⟩:=aB (W4.setCell ⟨b5,2,ε⟩ (γ A8 rn c8));rw[sC] at TI Rn RP ND kF XU BE ⊢;clear sC FA Um mN Ul kC HC4 KQ;replace TI:Hid (Whole W5 b5 59 (vC ((i1,i2),(A8,rn,c8,rL),lb,at_))):=TI;have c3:=ND.out.cell (i:=0) rfl;refine wp_region_lit ?_;refine a7 (v:=?_) (ζ 28) rfl (by rfl) ?_ ?_;rotate_left
   ·go_simp;(try with_reducible rfl)
   simp only[ξ,aw,ar,aq];refine a7 (v:=?_) (ζ 29) rfl (by rfl) ?_ ?_;rotate_left
   ·go_simp;(try with_reducible rfl)
   simp only[ξ,aw,ar,aq];refine eJ (ζ 30) rfl (by rfl) 59 (.tmp 5) rfl (b5) rfl 59 (vC ((i1,i2),(A8,rn,c8,rL),lb,at_)) _ TI.out Tryz.underlying59 rfl (by kernel_rfl) ?_;simp only[ξ,aw,ar,aq];clear c3;refine gS (ζ 31) rfl (by rfl) 22 59 1 #[(0,.tmp 30)] (by rfl) Tryz.underlying22 (vC ((i1,i2),(A8,rn,c8,rL),lb,at_)).toArray (by kernel_rfl) ?_;simp only[ξ,aw,ar,aq];obtain⟨A9,c9,W6,bV,hC6,oE,x7⟩:=(XU.out.al (δ (vC ((i1,i2),(A8,rn,c8,rL),lb,at_)).toArray 59)).push (P:=η) ((i1,i2),(A8,rn,c8,rL),lb,at_) (bo BE.out (az _ _)) 22 22 iV _ Tryz.underlying22 hiv ag3 af0 adP rfl (by omega) (by have:=kF.out.size;simp;omega) W5.heap.size (bg.of_whole (Whole.new2 rfl) rfl);refine pC (ζ 32) rfl (by rfl) (dt (by rfl) (by rfl) (by rfl) bV) ?_;simp only[ξ,aw,ar,aq];have n0:=bD XU.out.v Rn.out (by decide);have n1:=bD XU.out.v RP.out (by decide);have n3:=bD XU.out.v ND.out (by decide);have ac0:=qh ((Rn.out.al (δ (vC ((i1,i2),(A8,rn,c8,rL),lb,at_)).toArray 59)).grown x7 n0);have aen:=qh ((RP.out.al (δ (vC ((i1,i2),(A8,rn,c8,rL),lb,at_)).toArray 59)).grown x7 n1);have QK:=qh ((ND.out.al (δ (vC ((i1,i2),(A8,rn,c8,rL),lb,at_)).toArray 59)).grown x7 n3);have s7:Hid (σ w.heap.size w W6):=qh ((aI kF.out (δ (vC ((i1,i2),(A8,rn,c8,rL),lb,at_)).toArray 59)).trans oE);have tm:=qh hC6;clear bV hC6 oE x7 n0 n1 n3 TI Rn RP ND kF XU BE
   have c3:=QK.out.cell (i:=0) rfl;have f3:=QK.out.free 0;have LV:=qh (ac0.out.set_far' (i:=0) aax.out (γ A9 (j+1) c9));have agq:=qh (aen.out.set_far' (i:=0) ZU.out (γ A9 (j+1) c9));have agh:=qh (QK.out.set_ 0 (γ A9 (j+1) c9));have tM:=qh (s7.out.setCell (p:=⟨b3,0,ε⟩) Hb3.out (γ A9 (j+1) c9));have KE:=qh (tm.out.far (i:=0) QK.out (by decide) (by decide) (by decide) (γ A9 (j+1) c9));have WX:Hid ((Ws++[((i1,i2),(A8,rn,c8,rL),lb,at_)]).map vS=(Vs.take (j+1)).map vS):=qh (by rw[HMn.out,JaU,HM.out];rfl);clear HM HMn;go_wp2;go_roundw
   case rel=>exact⟨j+1,A9,c9,_,by omega,by go_num,tM,LV,agq,agh,KE,WX⟩
   case measure=>simp[intOf];omega
  ·obtain rfl:n=j:=by omega
   have hM:=HM.out;rw[Ι (by have:=oG.out;omega)] at hM;have jq:=(aL.out.set_ 0 (γ A2 n c2)).set_ 1 (γ Be m ke);have DO:=(HC.out.far (i:=0) aL.out (by decide) (by decide) (by decide) (γ A2 n c2)).far (i:=1) (aL.out.set_ 0 (γ A2 n c2)) (by decide) (by decide) (by decide) (γ Be m ke);have cP:=(HB.out.setCell (p:=⟨b1,0,ε⟩) iP.out (γ A2 n c2)).setCell (p:=⟨b1,1,ε⟩) iP.out (γ Be m ke);have e0:=cF.out.cell (i:=0) rfl;have e1:=cF.out.cell (i:=1) rfl;have f0:=aL.out.free 0;have f1:=aL.out.free 1;have k0:=aL.out.cell (i:=0) rfl;have k1:=aL.out.cell (i:=1) rfl;have Yn:=qh (show ∃A' c' B' k' Us,(Ending.returned (φ #[γ A2 n c2,γ Be m ke]))=.returned (φ #[γ A' n c',γ B' m k'])∧uz _ w.heap.size A' n c' Us B' m k' Es∧Us.map vS=Vs.map vS∧σ w.heap.size w _ from⟨A2,c2,Be,ke,Ws,rfl,DO,hM,cP⟩);have Hx1:=qh jq;clear jq hM DO cP HC HM HB aQ aL cF;go_wp2;exact dO rfl b1 rfl Hx1.out Tryz.underlying25 rfl (by kernel_rfl) rfl Yn.out
theorem lh {R:List D} (hn:R.Nodup) {k:Nat} (hk:k<R.length):ee R (R.getD k (0,0,0))=R.getD ((k+1) % R.length) (0,0,0):=by
 have e:R.getD k (0,0,0)=R[k]:=by rw[χ,θ hk];rfl
 rw[ee,e,hn.idxOf_getElem k hk]
theorem Q6 {R:List D} {y:D} (h:y∈R):∃k,k<R.length∧R.getD k (0,0,0)=y:=by
 obtain⟨k,hk,e⟩:=Jbv h;exact⟨k,hk,by rw[χ,θ hk];exact e⟩
theorem GU (X Y:List D) {k:Nat} (hk:k<(Y++X).length):(Y++X).getD k (0,0,0)=(X++Y).getD ((k+X.length) % (X++Y).length) (0,0,0):=by
 rw[Ε] at hk;rw[χ,χ,Ε]
 by_cases q:k<Y.length
 ·rw[Jab q,JbE (by omega),Jal (by omega),Nat.add_sub_cancel]
 ·rw[Jal (by omega)]
  have e:(k+X.length) % (X.length+Y.length)=k - Y.length:=by
   rw[show k+X.length=(k - Y.length)+(X.length+Y.length) by omega,Nat.add_mod_right,JbE (by omega)]
  rw[e,Jab (by omega)]
theorem mI {A B:List D} (h:ou A B) (hn:A.Nodup) {y:D} (hy:y∈A):ee B y=ee A y:=by
 obtain⟨X,Y,rfl,rfl⟩:=h;have hnB:(Y++X).Nodup:=List.perm_append_comm.nodup_iff.1 hn;obtain⟨k,hk,rfl⟩:=Q6 (R:=Y++X) (List.perm_append_comm.mem_iff.1 hy);have hl:(Y++X).length=(X++Y).length:=by simp[Nat.add_comm]
 have Uj:0<(X++Y).length:=by omega
 rw[lh hnB hk,GU X Y (Nat.mod_lt _ (by omega)),GU X Y hk,lh hn (Nat.mod_lt _ Uj),hl];congr 1;rw[Nat.mod_add_mod,Nat.mod_add_mod];congr 1;omega
theorem CG:∀(Us Ws:List VC) (f:D→Option D),Us.map (fun v=>v.2.1.2.2.2)=Ws.map (fun v=>v.2.1.2.2.2)→xJ Us f=xJ Ws f
 |[],[],_,_=>rfl
 |[],_::_,_,h=>by cases h
 |_::_,[],_,h=>by cases h
 |u::r,v::s,f,h=>by
  rw[ι,ι] at h;injection h with h1 h2
  rw[xJ,xJ,h1];exact CG r s _ h2
theorem Jt {Us Ws:List VC} (h:Us.map vS=Ws.map vS):gi Us=gi Ws:=by
 have h1:=congrArg (List.map (fun s:(Int × Int) × List D × ByteArray × Int=>s.2.1)) h;rw[JaW,JaW] at h1;exact CG Us Ws _ h1
theorem K5 {Us Ws:List VC} (h:Us.map vS=Ws.map vS):fQ Us=fQ Ws:=by
 funext y
 rw[fQ,fQ,iO,iO,Jt h]
theorem MX (B:List D) (x d:D) (hn:(B++[x,d]).Nodup):ee (B++[x,d]) x=d∧ee (B++[x,d]) d=ee (B++[x]) x∧∀z∈B,ee (B++[x,d]) z=ee (B++[x]) z:=by
 have ni:(B++[x]).Nodup:=by
  have:(B++[x,d])=(B++[x])++[d]:=by simp
  rw[this] at hn;exact(JaL.1 hn).1
 have g:∀(i:Nat) (h:i<B.length),(B++[x,d]).getD i (0,0,0)=B[i]:=fun i h=>by
  rw[χ,Jab h,θ h];rfl
 have g':∀(i:Nat) (h:i<B.length),(B++[x]).getD i (0,0,0)=B[i]:=fun i h=>by
  rw[χ,Jab h,θ h];rfl
 have gx:(B++[x,d]).getD B.length (0,0,0)=x:=by
  rw[χ,Jal (Δ _),JaP];rfl
 have gx':(B++[x]).getD B.length (0,0,0)=x:=by
  rw[χ,Jal (Δ _),JaP];rfl
 have gd:(B++[x,d]).getD (B.length+1) (0,0,0)=d:=by
  rw[χ,Jal (by omega),show B.length+1 - B.length=1 by omega];rfl
 have hl:(B++[x,d]).length=B.length+2:=by simp
 have Pw:(B++[x]).length=B.length+1:=by simp
 have g0:(B++[x,d]).getD 0 (0,0,0)=(B++[x]).getD 0 (0,0,0):=by
  cases B with
  |nil=>rfl
  |cons b r=>rfl
 refine⟨?_,?_,fun z hz=>?_⟩
 ·have:=lh hn (k:=B.length) (by omega)
  rw[gx,hl,JbE (by omega),gd] at this;exact this
 ·have h1:=lh hn (k:=B.length+1) (by omega);rw[gd,hl,show B.length+1+1=B.length+2 by omega,Nat.mod_self] at h1;have h2:=lh ni (k:=B.length) (by omega);rw[gx',Pw,Nat.mod_self] at h2;rw[h1,h2,g0]
 ·obtain⟨i,hi,rfl⟩:=Jbv hz;have h1:=lh hn (k:=i) (by omega);rw[g i hi,hl,JbE (by omega)] at h1;have h2:=lh ni (k:=i) (by omega);rw[g' i hi,Pw,JbE (by omega)] at h2;rw[h1,h2]
  by_cases q:i+1<B.length
  ·rw[g _ q,g' _ q]
  ·have e:i+1=B.length:=by omega
   rw[e,gx,gx']
theorem wY (Ws:List VC):bF Ws=((Ws.map vS).filter fun s=>decide (s.2.1=[])).length:=by
 rw[List.filter_map,Ρ];rfl
theorem se {L:List D} {x d:D}:d∈kt L x↔d∈L∧d≠x:=by
 unfold kt;simp[List.mem_filter]
theorem pr {L:List D} {x:D} (h:¬x∈L):kt L x=L:=by
 unfold kt;rw[List.filter_eq_self];exact fun a ha=>decide_eq_true fun e=>h (e▸ha)
theorem CI {R:List D} (hn:R.Nodup) {x:D} (hx:x∈R):(∀z∈R,z≠x→ee (aM (kt R x)) z=if ee R z=x then ee R x else ee R z)∧(ee R x=x↔kt R x=[]):=by
 obtain⟨X,Y,rfl⟩:=List.append_of_mem hx
 have Pv:x∉X∧x∉Y:=by
  rw[JaL] at hn;exact⟨fun q=>hn.2.2 x q x (Jai ..) rfl,fun q=>(JaJ.1 hn.2.1).1 q⟩
 have ef:kt (X++x::Y) x=X++Y:=by
  have e1:=pr Pv.1;have e2:=pr Pv.2;unfold kt at e1 e2 ⊢;rw[List.filter_append,Jbm,if_neg (by simp),e1,e2]
 have r1:ou (X++x::Y) ((Y++X)++[x]):=⟨X++[x],Y,by simp,by simp⟩;have r2:ou (X++Y) (Y++X):=⟨X,Y,rfl,rfl⟩;have ni:((Y++X)++[x]).Nodup:=r1.nodup hn;have hnf:(kt (X++x::Y) x).Nodup:=hn.filter _;have hm:∀z,z∈X++x::Y↔z∈(Y++X)++[x]:=fun z=>r1.mem z
 have n1:∀z∈X++x::Y,ee ((Y++X)++[x]) z=ee (X++x::Y) z:=fun z hz=>mI r1 hn hz
 rw[ef] at hnf
 have n2:∀z∈X++Y,ee (aM (X++Y)) z=ee (Y++X) z:=fun z hz=>by
  rw[mI (eN (X++Y)) hnf hz,mI r2 hnf hz]
 rw[ef];obtain⟨B,gB⟩:=aB (Y++X)
 have hXY:X++Y=[]↔B=[]:=by
  rw[←gB];constructor
  ·intro q;rw[List.append_eq_nil_iff] at q;rw[q.1,q.2];rfl
  ·intro q;rw[List.append_eq_nil_iff] at q;rw[q.1,q.2];rfl
 have hmB:∀z,z∈X++Y↔z∈B:=fun z=>by rw[←gB];exact r2.mem z
 rw[gB] at ni hm n1 n2;rw[hXY]
 have hBx:x∉B:=fun q=>by
  rw[←gB] at q;exact(Jan.1 q).elim Pv.2 Pv.1
 have in_:∀z∈X++x::Y,z≠x→z∈B:=fun z hz bj=>((Jan.1 ((hm z).1 hz)).elim id fun q=>absurd (Jao.1 q) bj)
 have nx:ee (X++x::Y) x=ee (B++[x]) x:=(n1 x hx).symm
 by_cases hB:B=[]
 ·refine⟨fun z hz bj=>?_,⟨fun _=>hB,fun _=>?_⟩⟩
  ·have:=in_ z hz bj
   rw[hB] at this;cases this
  ·rw[nx,hB];simp[ee]
 ·obtain⟨C,c,gC⟩:∃C c,B=C++[c]:=⟨B.dropLast,B.getLast hB,(List.dropLast_concat_getLast hB).symm⟩
  have SG:(C++[c,x]).Nodup:=by rw[gC] at ni;simpa using ni
  have e2:B++[x]=C++[c,x]:=by rw[gC];simp
  obtain⟨q1,q2,q3⟩:=MX C c x SG;rw[←e2] at q1 q2 q3;rw[←gC] at q2 q3;have hcB:c∈B:=by rw[gC];simp
  refine⟨fun z hz bj=>?_,⟨fun q=>?_,fun q=>absurd q hB⟩⟩
  ·have hzB:=in_ z hz bj;rw[n2 z ((hmB z).2 hzB),←n1 z hz,nx]
   by_cases hzc:z=c
   ·rw[hzc,q1,if_pos rfl,q2]
   ·have hzC:z∈C:=by
     rw[gC] at hzB;exact(Jan.1 hzB).elim id fun q=>absurd (Jao.1 q) hzc
    have O0:ee B z∈B:=jQ hzB;rw[q3 z hzC,if_neg (fun q:ee B z=x=>hBx (q▸O0))]
  ·rw[nx,q2] at q;have h9:ee B c∈B:=jQ hcB;rw[q] at h9;exact absurd h9 hBx
section
variable {Vs Us:List VC} {Es:List EC}
theorem nY (hn:(ao Vs).Nodup) {x d:D}:d∈ao (Vs.map (remV x))↔d∈ao Vs∧d≠x:=by
 rw[(tp x Vs).mem_iff,se]
theorem kR (hn:(ao Vs).Nodup) (x:D):(ao (Vs.map (remV x))).Nodup:=(tp x Vs).nodup_iff.2 (hn.filter _)
theorem Wq (hn:(ao Vs).Nodup) {x z:D} (hx:x∈ao Vs) (hz:z∈ao Vs) (bj:z≠x):iO (Vs.map (remV x)) z=if iO Vs z=x then iO Vs x else iO Vs z:=by
 obtain⟨v,hv,hr⟩:=cL.1 hz;have hzr:z∈(remV x v).2.1.2.2.2:=(kM _).mem_iff.2 (se.2 ⟨hr,bj⟩);rw[ic (kR hn x) (Α.2 ⟨v,hv,rfl⟩) hzr,ic hn hv hr];show ee (aM (kt v.2.1.2.2.2 x)) z=_;have hnv:=lu hn hv
 by_cases q:x∈v.2.1.2.2.2
 ·rw[ic hn hv q];exact(CI hnv q).1 z hr bj
 ·rw[pr q,mI (eN _) hnv hr,if_neg (fun e:ee v.2.1.2.2.2 z=x=>q (e▸jQ hr))]
theorem vL {x:D}:∀{Vs:List VC},(∀v∈Vs,x∉v.2.1.2.2.2)→bF (Vs.map (remV x))=bF Vs
 |[],_=>rfl
 |v::r,h=>by
  have ih:=vL (x:=x) (Vs:=r) (fun u hu=>h u (Jad _ hu))
  have e:(remV x v).2.1.2.2.2=[]↔v.2.1.2.2.2=[]:=by
   show aM (kt v.2.1.2.2.2 x)=[]↔_;rw[pr (h v (Jai ..)),←List.length_eq_zero_iff,pP,List.length_eq_zero_iff]
  unfold bF at ih ⊢;rw[ι,Jbm,Jbm]
  by_cases q:v.2.1.2.2.2=[]
  ·rw[if_pos (decide_eq_true (e.2 q)),if_pos (decide_eq_true q),JaH,JaH,ih]
  ·rw[if_neg (by simpa using fun q2=>q (e.1 q2)),if_neg (by simpa using q),ih]
theorem yU {x:D}:∀{Vs:List VC},(ao Vs).Nodup→∀{v:VC},v∈Vs→x∈v.2.1.2.2.2→bF (Vs.map (remV x))=bF Vs+if kt v.2.1.2.2.2 x=[] then 1 else 0
 |[],_,v,hv,_=>by cases hv
 |u::r,hn,v,hv,hx=>by
  rw[eA,JaL] at hn
  have hlen:(remV x u).2.1.2.2.2=[]↔kt u.2.1.2.2.2 x=[]:=by
   show aM (kt u.2.1.2.2.2 x)=[]↔_;rw[←List.length_eq_zero_iff,pP,List.length_eq_zero_iff]
  by_cases q:x∈u.2.1.2.2.2
  ·have kZ:∀y∈r,x∉y.2.1.2.2.2:=fun y hy hq=>hn.2.2 x q x (cL.2 ⟨y,hy,hq⟩) rfl
   obtain rfl:v=u:=by
    rcases Η.1 hv with e|e
    ·exact e
    ·exact absurd hx (kZ v e)
   have ih:=vL kZ;have hv0:¬v.2.1.2.2.2=[]:=fun e=>by rw[e] at q;cases q
   unfold bF at ih ⊢;rw[ι,Jbm,Jbm,if_neg (c:=(decide (v.2.1.2.2.2=[]))=τ) (by simpa using hv0)]
   by_cases w:kt v.2.1.2.2.2 x=[]
   ·rw[if_pos (decide_eq_true (hlen.2 w)),JaH,ih,if_pos w]
   ·rw[if_neg (by simpa using fun q2=>w (hlen.1 q2)),ih,if_neg w];rfl
  ·have hvr:v∈r:=by
    rcases Η.1 hv with e|e
    ·exact absurd (e▸hx) q
    ·exact e
   have ih:=yU (x:=x) hn.2.1 hvr hx;have e:(remV x u).2.1.2.2.2=[]↔u.2.1.2.2.2=[]:=by rw[hlen,pr q]
   unfold bF at ih ⊢;rw[ι,Jbm,Jbm]
   by_cases w:u.2.1.2.2.2=[]
   ·rw[if_pos (decide_eq_true (e.2 w)),if_pos (decide_eq_true w),JaH,JaH,ih];omega
   ·rw[if_neg (by simpa using fun q2=>w (e.1 q2)),if_neg (by simpa using w),ih]
theorem Ch (hn:(ao Vs).Nodup) {l:List I2} (hp:Pm (om Vs l) (ao Vs)) (hc:∀z∈ao Vs,qf l z∈ao Vs) {x:D} (hx:x∈ao Vs) (j9:qf l x=x) {P:List D} (hP:jW (om Vs l) (ao Vs) P):
 Pm (om (Vs.map (remV x)) l) (ao (Vs.map (remV x)))∧(∀z∈ao (Vs.map (remV x)),qf l z∈ao (Vs.map (remV x)))∧∃P',jW (om (Vs.map (remV x)) l) (ao (Vs.map (remV x))) P'∧P'.length+bF (Vs.map (remV x))=P.length+bF Vs:=by
 have rB:∀z,z≠x→qf l z≠x:=fun z hz e=>hz (by rw[←Bo l z,e,j9])
 obtain⟨h1,P',h2,h3⟩:=wk (f':=om (Vs.map (remV x)) l) hp hx (kR hn x) (fun y=>nY hn) (fun z hz=>by
  obtain⟨z1,z2⟩:=(nY hn).1 hz;show iO (Vs.map (remV x)) (qf l z)=if iO Vs (qf l z)=x then iO Vs (qf l x) else iO Vs (qf l z)
  rw[j9];exact Wq hn hx (hc z z1) (rB z z2)) hP
 refine⟨h1,fun z hz=>?_,P',h2,?_⟩
 ·obtain⟨z1,z2⟩:=(nY hn).1 hz;exact(nY hn).2 ⟨hc z z1,rB z z2⟩
 ·obtain⟨v,hv,hr⟩:=cL.1 hx;have e1:=yU hn hv hr
  have e2:om Vs l x=ee v.2.1.2.2.2 x:=by
   show iO Vs (qf l x)=_;rw[j9,ic hn hv hr]
  have e3:=(CI (lu hn hv) hr).2;rw[e2] at h3
  by_cases q:kt v.2.1.2.2.2 x=[]
  ·rw[if_pos (e3.2 q)] at h3;rw[if_pos q] at e1;omega
  ·rw[if_neg (fun w=>q (e3.1 w))] at h3;rw[if_neg q] at e1;omega
end
theorem Mv {Us Ms:List VC} (h:Us.map vS=Ms.map vS) (i:Nat) (y:I2):Pj Us i y→Pj Ms i y:=by
 rintro⟨u,hu,x,hx,e⟩;have hi:=congrArg (fun L:List ((Int × Int) × List D × ByteArray × Int)=>L[i]?) h;simp only[Ψ] at hi;rw[hu] at hi;cases hv:Ms[i]? with
 |none=>rw[hv] at hi;cases hi
 |some v=>
  rw[hv] at hi;have e1:vS u=vS v:=Μ hi;have e2:u.2.1.2.2.2=v.2.1.2.2.2:=congrArg (fun s:(Int × Int) × List D × ByteArray × Int=>s.2.1) e1;exact⟨v,hv,x,e2▸hx,e⟩
def e7 (e:EC) (Vs:List VC):List VC:=(Vs.map (remV (e.1.1,e.1.2,0))).map (remV (e.1.1,e.1.2,1))
def mE (k:Nat) (Es:List EC):List EC:=Es.take k++Es.drop (k+1)
section
variable {Vs Us:List VC} {Es:List EC}
theorem vX {k:Nat} {e:EC} (he:Es[k]? =ζ e):(mE k Es++[e]).Perm Es:=by
 obtain⟨hk,q⟩:=List.getElem?_eq_some_iff.1 he
 have e1:Es=Es.take k++e::Es.drop (k+1):=by
  rw[←q,←Χ hk,List.take_append_drop]
 conv=>rhs;rw[e1]
 unfold mE;rw[Jay];exact List.Perm.append_left _ List.perm_append_comm
theorem yI (k:Nat):(mE k Es).Sublist Es:=by
 unfold mE;rw[←List.eraseIdx_eq_take_drop_succ];exact List.eraseIdx_sublist ..
theorem Ml (h:aG Vs Es) {e:EC} {d:D}:d∈ao (e7 e Vs)↔d∈ao Vs∧d≠(e.1.1,e.1.2,0)∧d≠(e.1.1,e.1.2,1):=by
 unfold e7;rw[nY (kR h.once _),nY h.once,and_assoc]
theorem tz (h:aG Vs Es) {k:Nat} {e:EC} (he:Es[k]? =ζ e) (x:EC):x∈mE k Es↔x∈Es∧x.1≠e.1:=by
 have hp:=vX he;have AK:((mE k Es++[e]).map (·.1)).Nodup:=(hp.map _).nodup_iff.2 (dh h.re);rw[JaU,JaL] at AK;constructor
 ·intro hx;exact⟨(yI k).subset hx,fun q=>AK.2.2 x.1 (Α.2 ⟨x,hx,rfl⟩) e.1 (Jao.2 rfl) q⟩
 ·rintro⟨hx,bj⟩;rcases Jan.1 (hp.mem_iff.2 hx) with q|q
  ·exact q
  ·rw[Jao.1 q] at bj;exact absurd rfl bj
theorem uk (h:aG Vs Es) {k:Nat} {e:EC} (he:Es[k]? =ζ e):aG (e7 e Vs) (mE k Es):=by
 have CP:=yI (Es:=Es) k;have ni:=kR h.once (e.1.1,e.1.2,0);have SG:(ao (e7 e Vs)).Nodup:=kR ni _
 refine⟨by simpa [e7] using h.v24,Λ CP.length_le h.e40,?_,?_,?_,?_,?_,?_,?_,?_⟩
 ·rw[e7,JaW,JaW];exact h.rv
 ·have h1:=(fS _ _).1 h.re;have hs:=CP.map (·.1);exact(fS _ _).2 ⟨fun x hx=>h1.1 x (hs.subset hx),fun y hy=>(by cases hy),h1.2.2.sublist hs⟩
 ·rw[Φ];intro v hv;obtain⟨u,hu,rfl⟩:=Α.1 hv;exact decide_eq_true (Q4 ((lu ni hu).filter _))
 ·refine(List.perm_ext_iff_of_nodup SG (kP _ [] List.nodup_nil)).2 fun d=>?_
  rw[Ml h,jL,h.mem];obtain⟨a,b,c⟩:=d;constructor
  ·rintro⟨⟨e',Rs,e1,hs⟩,q0,q1⟩;simp only at e1 hs;refine .inr ⟨e',(tz h he e').2 ⟨Rs,fun q=>?_⟩,?_⟩
   ·rw[e1] at q;rcases hs with rfl|rfl
    ·exact q0 (by rw[←q])
    ·exact q1 (by rw[←q])
   ·rw[e1];rcases hs with rfl|rfl
    ·exact .inl rfl
    ·exact .inr rfl
  ·rintro (q|⟨e',Rs,hs⟩)
   ·cases q
   ·obtain⟨h1,h2⟩:=(tz h he e').1 Rs
    have e1:e'.1=(a,b):=by
     rcases hs with q|q<;>(injection q with q1 q2;injection q2 with q2 q3;rw[q1,q2])
    have e2:c=0∨c=1:=by
     rcases hs with q|q<;>(injection q with q1 q2;injection q2 with q2 q3)
     ·exact .inl q3
     ·exact .inr q3
    refine⟨⟨e',h1,e1,e2⟩,fun q=>?_,fun q=>?_⟩<;>(injection q with q1 q2;injection q2 with q2 q3;exact h2 (by rw[e1,q1,q2]))
 ·rw[Φ];intro v hv;obtain⟨u,hu,rfl⟩:=Α.1 hv;obtain⟨y,hy,rfl⟩:=Α.1 hu;exact Φ.1 h.lv y hy
 ·rw[Φ];exact fun x hx=>Φ.1 h.le x (CP.subset hx)
 ·rw[Φ];intro v hv;obtain⟨u,hu,rfl⟩:=Α.1 hv;obtain⟨y,hy,rfl⟩:=Α.1 hu;exact Φ.1 h.av y hy
 ·rw[Φ];exact fun x hx=>Φ.1 h.ae x (CP.subset hx)
theorem Gg (h:aG Vs Es) {e:EC} {d:D} (hd:d∈ao (e7 e Vs)):lx (e7 e Vs) d=lx Vs d:=by
 obtain⟨v,hv,hr⟩:=tC hd;unfold e7 at hv;rw[Ψ,Ψ] at hv;cases hu:Vs[lx (e7 e Vs) d]? with
 |none=>rw[e7] at hu;rw[hu] at hv;cases hv
 |some u=>
  have PJ:=hu;rw[e7] at PJ;rw[PJ] at hv;obtain rfl:=Μ hv;have h1:=(se.1 ((kM _).mem_iff.1 hr)).1;have h2:=(se.1 ((kM _).mem_iff.1 h1)).1;exact(AX h.once hu h2).symm
theorem E5 (h:aG Vs Es) {k:Nat} {e:EC} (he:Es[k]? =ζ e):eM Vs Es=eM (e7 e Vs) (mE k Es)∨eM Vs Es=eM (e7 e Vs) (mE k Es)+1:=by
 have hp:=vX he;have hF:=uk h he;have hem:=ω he;obtain⟨P,t,hP,hE,hg⟩:=JQ h (fun x=>hp.mem_iff) ((hp.map _).nodup_iff.2 (dh h.re))
 have kZ:(e.1.1,e.1.2)∉(mE k Es).map (·.1):=fun q=>by
  obtain⟨x,hx,q2⟩:=Α.1 q;exact((tz h he x).1 hx).2 q2
 have rB:∀s,qf ((mE k Es).map (·.1)) (e.1.1,e.1.2,s)=(e.1.1,e.1.2,s):=fun s=>if_neg kZ
 obtain⟨m0,m1⟩:=h.ends hem;obtain⟨p1,c1,P1,hP1,e1⟩:=Ch h.once (sS h _) (fun z hz=>pZ h _ hz) m0 (rB 0) hP;obtain⟨p2,c2,P2,Rt,e2⟩:=Ch (kR h.once _) p1 c1 ((nY h.once).2 ⟨m1,fun q=>by simp at q⟩) (rB 1) hP1;have h3:jW (fQ (e7 e Vs)) (ao (e7 e Vs)) P2:=Rt.congr p2 (fun x hx=>L4 hF hx);obtain⟨P0,hP0,ef⟩:=iK hF;have hl:=hP0.len hF.phi h3
 have ac4:zX Vs (mE k Es)=dm (e7 e Vs):=by
  rw[←zU hF,EK,List.take_length,zX];have q1:(e7 e Vs).length=Vs.length:=by simp[e7]
  rw[q1];congr 1;refine JaV fun x hx=>?_
  obtain⟨n0,n1⟩:=hF.ends hx;rw[uf,uf,Gg h n0,Gg h n1]
 rw[ac4] at hE;have QV:(e7 e Vs).length=Vs.length:=by simp[e7]
 have aer:bF (e7 e Vs)=bF ((Vs.map (remV (e.1.1,e.1.2,0))).map (remV (e.1.1,e.1.2,1))):=rfl;have iZ:=nD hF (t:=t) (by rw[QV,ef,hl,aer];omega);rw[iZ];exact hg
theorem LN (h:Us.map vS=Vs.map vS):eM Us Es=eM Vs Es:=by
 have hl:Us.length=Vs.length:=by simpa using congrArg List.length h
 have h1:kp Us Es=kp Vs Es:=by unfold kp;rw[K5 h]
 have h2:bF Us=bF Vs:=by rw[wY,h,←wY]
 have h3:dm Us=dm Vs:=zA hl (fun i y=>⟨Mv h i y,Mv h.symm i y⟩);unfold eM;rw[h1,h2,h3,hl]
end
structure gD (S:SS):Prop where
 fit:dx S
 v24:S.1.length≤24
 e40:S.2.1.length≤40
 g400:S.2.2.length≤400
 vm:∀v∈S.1,dK v.1.1 v.1.2=τ∧cQ v.2.2.1=τ∧eR v.2.2.2=τ
 em:∀e∈S.2.1,dK e.1.1 e.1.2=τ∧cQ e.2.1=τ∧eR e.2.2=τ
 gr:cT S.2.2
theorem dy:gD dv:=⟨⟨List.Pairwise.nil,List.Pairwise.nil,List.nodup_nil,fun v h=>(by cases h),fun v h=>(by cases h),fun v h=>(by cases h)⟩,by decide,by decide,by decide,fun v h=>(by cases h),fun v h=>(by cases h),trivial⟩
theorem Gz {L:List Nm} (h:L.Pairwise (fun a b=>dW a b<0)) (hm:∀x∈L,dK x.1 x.2=τ):fA ε L=τ:=(fS L ε).2 ⟨hm,fun y h=>(by cases h),h⟩
theorem dN (Vs:List VC):ao Vs=(Vs.map vS).flatMap (fun v=>v.2.1):=(Qq Vs).symm
theorem gD.formed {S:SS} (h:gD S) {Vs:List VC} (e:Vs.map vS=S.1):aG Vs S.2.1:=by
 have hk:Vs.map (·.1)=S.1.map (·.1):=by rw[←e,iB]
 have hr:ao Vs=S.1.flatMap (fun v=>v.2.1):=by rw[dN,e]
 have QV:Vs.length=S.1.length:=by rw[←e,Ρ]
 have hm:∀v∈Vs,vS v∈S.1:=fun v hv=>e▸Α.2 ⟨v,hv,rfl⟩
 refine⟨by rw[QV];exact h.v24,h.e40,?_,?_,?_,?_,?_,?_,?_,?_⟩
 ·rw[hk];refine Gz (Jbg.2 h.fit.vup) (fun x hx=>?_);obtain⟨v,hv,rfl⟩:=Α.1 hx;exact(h.vm v hv).1
 ·refine Gz (Jbg.2 h.fit.eup) (fun x hx=>?_);obtain⟨v,hv,rfl⟩:=Α.1 hx;exact(h.em v hv).1
 ·exact Φ.2 (fun v hv=>decide_eq_true (h.fit.turned _ (hm v hv)).symm)
 ·rw[hr]
  refine(List.perm_ext_iff_of_nodup h.fit.once (kP _ [] List.nodup_nil)).2 (fun d=>?_)
  rw[jL];constructor
  ·intro hd;obtain⟨v,hv,hd⟩:=Jat.1 hd;obtain⟨h1,h2⟩:=h.fit.known v hv d hd;obtain⟨e,he,e1⟩:=db.1 h1;refine .inr ⟨e,he,?_⟩;have e1:e.1=(d.1,d.2.1):=e1;obtain⟨a,b,c⟩:=d;rw[e1];rcases h2 with h2|h2
   ·exact .inl (congrArg (fun z=>(a,b,z)) h2)
   ·exact .inr (congrArg (fun z=>(a,b,z)) h2)
  ·rintro (hd|⟨e,he,hd⟩)
   ·cases hd
   ·obtain⟨h1,h2⟩:=h.fit.ends e he;rcases hd with rfl|rfl
    ·obtain⟨v,hv,hd⟩:=cn.1 h1;exact Jat.2 ⟨v,hv,hd⟩
    ·obtain⟨v,hv,hd⟩:=cn.1 h2;exact Jat.2 ⟨v,hv,hd⟩
 ·exact Φ.2 (fun v hv=>(h.vm _ (hm v hv)).2.1)
 ·exact Φ.2 (fun v hv=>(h.em _ hv).2.1)
 ·exact Φ.2 (fun v hv=>(h.vm _ (hm v hv)).2.2)
 ·exact Φ.2 (fun v hv=>(h.em _ hv).2.2)
theorem aG.ok {Vs:List VC} {Es:List EC} (h:aG Vs Es) {G:List Gn} (hg:G.length≤400) (hr:cT G):gD (Vs.map vS,Es,G):=by
 have hv:=(fS _ _).1 h.rv;have he:=(fS _ _).1 h.re;have hm:∀v∈Vs.map vS,∃u∈Vs,vS u=v:=fun v hv=>Α.1 hv
 refine⟨⟨?_,?_,?_,fun v hv=>?_,fun v hv d hd=>?_,fun e hE=>?_⟩,by rw[Ρ];exact h.v24,h.e40,hg,fun v hV=>?_,fun e hE=>?_,hr⟩
 ·exact Jbg.1 (iB Vs▸hv.2.2)
 ·exact Jbg.1 he.2.2
 ·exact dN Vs▸h.once
 ·obtain⟨u,hu,rfl⟩:=hm v hv;exact(of_decide_eq_true (Φ.1 h.tu u hu)).symm
 ·obtain⟨u,hu,rfl⟩:=hm v hv;obtain⟨e,hE,e1,e2⟩:=(h.mem d).1 (Jat.2 ⟨u,hu,hd⟩);exact⟨db.2 ⟨e,hE,e1⟩,e2⟩
 ·have k:∀s:Int,s=0∨s=1→bX (Vs.map vS) (bh e.1 s)=τ:=fun s hs=>by
   obtain⟨v,hv,hd⟩:=Jat.1 ((h.mem (bh e.1 s)).2 ⟨e,hE,rfl,hs⟩);exact cn.2 ⟨vS v,Α.2 ⟨v,hv,rfl⟩,hd⟩
  exact⟨k 0 (.inl rfl),k 1 (.inr rfl)⟩
 ·obtain⟨u,hu,rfl⟩:=hm v hV;exact⟨hv.1 u.1 (Α.2 ⟨u,hu,rfl⟩),Φ.1 h.lv u hu,Φ.1 h.av u hu⟩
 ·exact⟨he.1 e.1 (Α.2 ⟨e,hE,rfl⟩),Φ.1 h.le e hE,Φ.1 h.ae e hE⟩
theorem Qg {a b:Int} (h:dK a b=τ):1≤a∧a≤8∧1≤b∧b≤1048576:=of_decide_eq_true h
theorem yN {t:ByteArray} (h:cQ t=τ):t.size≤16:=by
 unfold cQ at h;rw[Jar] at h;exact of_decide_eq_true h.1
theorem vF {n:Int} (h1:0≤n) (h2:n≤1048576):(Lit.int .i64 n).wf=τ:=by
 have e1:Jaw.min= -9223372036854775808:=by decide
 have e2:Jaw.max=9223372036854775807:=by decide
 simp only[Lit.wf,e1,e2,Jar,decide_eq_true_eq];omega
theorem FC {x:Nm} {s:Int} (h:dK x.1 x.2=τ) (hs:s=0∨s=1):su (x.1,x.2,s):=by
 obtain⟨h1,h2,h3,h4⟩:=Qg h;exact⟨vF (show 0≤x.1 by omega) (show x.1≤_ by omega),vF (show 0≤x.2 by omega) (show x.2≤_ by omega),vF (show 0≤s by omega) (show s≤_ by omega)⟩
theorem gD.good {S:SS} (h:gD S) {Vs:List VC} (e:Vs.map vS=S.1):mG Vs S.2.1:=by
 have hm:∀v∈Vs,vS v∈S.1:=fun v hv=>e▸Α.2 ⟨v,hv,rfl⟩
 refine⟨fun x hx d hd=>?_,fun e he=>⟨FC (h.em e he).1 (.inl rfl),FC (h.em e he).1 (.inr rfl)⟩,fun x hx=>?_,fun x hx=>?_⟩
 ·obtain⟨h1,h2⟩:=h.fit.known _ (hm x hx) d hd;obtain⟨e,he,e1⟩:=db.1 h1
  have:=FC (h.em e he).1 h2
  rw[e1] at this;exact this
 ·have:=yN (h.vm _ (hm x hx)).2.1
  have h2:x.2.2.1.size≤16:=this;exact Λ h2 (by decide)
 ·exact Λ (yN (h.em _ hx).2.1) (by decide)
def Rf (v:VS):VC:=(v.1,(ε,v.2.1.length,v.2.1.length,v.2.1),v.2.2)
theorem eH (V:List VS):(V.map Rf).map vS=V:=by
 rw[JaW];exact(JaV (fun v _=>rfl)).trans (List.map_id V)
def eO (V:List VS) (E:List EC):Bool:=eM (V.map Rf) E==0
theorem wL (Vs:List VC) (E:List EC):eO (Vs.map vS) E=(eM Vs E==0):=by
 unfold eO;rw[LN (eH _)]
theorem gD.short {S:SS} (h:gD S):∀v∈S.1,v.2.1.length≤80:=fun v hv=>by
 have h1:=(h.formed (eH S.1)).l80;rw[dN,eH] at h1
 have h2:v.2.1.length≤(S.1.flatMap (fun v=>v.2.1)).length:=by
  obtain⟨a,b,e⟩:=List.append_of_mem hv;rw[e,List.flatMap_append,List.flatMap_cons];simp only[Ε];omega
 exact Λ h2 h1
theorem DL (s n c:Int) (w:ο) (h:dK s n=τ):
 Ζ η 109 #[φ #[J s,J n,J c]] w fun e w'=>e=.returned (Β (decide (c=0)||decide (c=1)))∧σ w.heap.size w w':=by
 have hm:=iT s n;rw[h] at hm;have H:=qh hm;clear hm h
 by_cases c0:c=0
 ·subst c0;go_enter Tryz.func109,Tryz.ntmps109;go_wp2_with (first|(go_at_call 64;refine(H.out _).mono ?_;rintro e w' ⟨rfl,hb⟩;obtain⟨hc,hf⟩:=ew hb))
  go_ret;exact⟨rfl,bc hb⟩
 ·have h0:(c==0)=ρ:=by simpa using c0
  by_cases c1:c=1
  ·subst c1;go_enter Tryz.func109,Tryz.ntmps109;go_wp2_with (first|(go_at_call 64;refine(H.out _).mono ?_;rintro e w' ⟨rfl,hb⟩;obtain⟨hc,hf⟩:=ew hb))
   go_ret;exact⟨rfl,bc hb⟩
  ·have h1:(c==1)=ρ:=by simpa using c1
   have hr:(decide (c=0)||decide (c=1))=ρ:=by simp[c0,c1]
   rw[hr];clear hr;go_enter Tryz.func109,Tryz.ntmps109;go_wp2_with (first|(go_at_call 64;refine(H.out _).mono ?_;rintro e w' ⟨rfl,hb⟩;obtain⟨hc,hf⟩:=ew hb))
   go_ret;exact⟨rfl,bc hb⟩
theorem Cz (s n c:Int) (w:ο) (h:dK s n=ρ):
 Ζ η 109 #[φ #[J s,J n,J c]] w fun e w'=>e=.returned (Β ρ)∧σ w.heap.size w w':=by
 have hm:=iT s n;rw[h] at hm;have H:=qh hm;clear hm h;go_enter Tryz.func109,Tryz.ntmps109;go_wp2_with (first|(go_at_call 64;refine(H.out _).mono ?_;rintro e w' ⟨rfl,hb⟩;obtain⟨hc,hf⟩:=ew hb))
 go_ret;exact⟨rfl,bc hb⟩
theorem De (s n c:Int):Pure 109 #[φ #[J s,J n,J c]] (Β (Uy s n c)):=fun w=>by
 unfold Uy;cases h:dK s n
 ·exact Cz s n c w h
 ·exact DL s n c w h
structure dR where
 (k s n s1 n1 s2 n2 a0 a1 a2 a3 a4 b0 b1 b2 b3 b4:Int)
 e:Bool
 t:ByteArray
 m:Int
deriving DecidableEq
def ak (o:dR):List ψ:=[J o.k,J o.s,J o.n,J o.s1,J o.n1,J o.s2,J o.n2,J o.a0,J o.a1,J o.a2,J o.a3,J o.a4,J o.b0,J o.b1,J o.b2,J o.b3,J o.b4,Β o.e,μ o.t,J o.m]
def Hi (n:Int):Bool:=decide (-1099511627776≤n∧n≤1099511627776)
def Jn (a0 a1 a2 a3 a4:Int):Bool:=dK a0 a1 && (decide (a2=0∧a3=0∧a4=0)||Uy a2 a3 a4)
theorem Au (n:Int):Pure 89 #[J n] (Β (Hi n)):=fun w=>by
 unfold Hi
 by_cases h1:-1099511627776≤n
 ·by_cases h2:n≤1099511627776
  ·rw[decide_eq_true ⟨h1,h2⟩];go_enter Tryz.func89,Tryz.ntmps89;go_wp2;go_ret;exact⟨rfl,Θ _ _⟩
  ·rw[decide_eq_false (fun h=>h2 h.2)];go_enter Tryz.func89,Tryz.ntmps89;go_wp2;go_ret;exact⟨rfl,Θ _ _⟩
 ·rw[decide_eq_false (fun h=>h1 h.1)];go_enter Tryz.func89,Tryz.ntmps89;go_wp2;go_ret;exact⟨rfl,Θ _ _⟩
theorem Bk (a b c:Int) (W:ο):(binOp .eql 32 (φ #[J a,J b,J c]) (φ #[J 0,J 0,J 0])).run η W=.ok (Β (decide (a=0∧b=0∧c=0))) W:=by
 by_cases h1:a=0<;>by_cases h2:b=0<;>by_cases h3:c=0<;>simp[go_sem,h1,h2,h3]
theorem qI (a0 a1 a2 a3 a4:Int):Pure 88 #[φ #[J a0,J a1,J a2,J a3,J a4]] (Β (Jn a0 a1 a2 a3 a4)):=fun w=>by
 unfold Jn;have hm:=iT a0 a1;have hd:=De a2 a3 a4;have hq:=Bk a2 a3 a4;cases h:dK a0 a1
 ·rw[h] at hm;have H:=qh hm;clear hm hd hq h;go_enter Tryz.func88,Tryz.ntmps88;go_wp2_with (first|(go_at_call 64;refine(H.out _).mono ?_;rintro e w' ⟨rfl,hb⟩;obtain⟨hc,hf⟩:=ew hb))
  go_ret;exact⟨rfl,bc hb⟩
 ·rw[h] at hm;have H:=qh hm
  by_cases hz:a2=0∧a3=0∧a4=0
  ·rw[decide_eq_true hz] at hq ⊢;clear hm hd h hz;go_enter Tryz.func88,Tryz.ntmps88;go_wp2_with (first|(go_at_call 64;refine(H.out _).mono ?_;rintro e w' ⟨rfl,hb⟩;obtain⟨hc,hf⟩:=ew hb))
   go_ret;exact⟨rfl,bc hb⟩
  ·rw[decide_eq_false hz] at hq ⊢;have HD:=qh hd;clear hm hd h hz;go_enter Tryz.func88,Tryz.ntmps88
   go_wp2_with (first
    |(go_at_call 64;refine(H.out _).mono ?_;rintro e w' ⟨rfl,hb⟩;obtain⟨hc,hf⟩:=ew hb)
    |(go_at_call 109;refine(HD.out _).mono ?_;rintro e bW ⟨rfl,aP⟩))
   go_ret;exact⟨by simp,(bc hb).trans (aP.mono (bc hb).size)⟩
def lO (o:dR):Bool:=
 if o.k=1∨o.k=2∨o.k=4∨o.k=7 then τ
 else if o.k=3 then Jn o.a0 o.a1 o.a2 o.a3 o.a4 && Jn o.b0 o.b1 o.b2 o.b3 o.b4
 else if o.k=5 then dK o.s1 o.n1 && dK o.s2 o.n2 && decide (0≤o.m∧o.m≤3)
 else if o.k=6 then dK o.s2 o.n2
 else if o.k=8 then Hi o.m
 else ρ
theorem RH (k s n s1 n1 s2 n2 a0 a1 a2 a3 a4 b0 b1 b2 b3 b4:Int) (e:Bool) (t:ByteArray) (m:Int):Pure 65 #[φ #[J k,J s,J n,J s1,J n1,J s2,J n2,J a0,J a1,J a2,J a3,J a4,J b0,J b1,J b2,J b3,J b4,Β e,μ t,J m]] (Β (lO ⟨k,s,n,s1,n1,s2,n2,a0,a1,a2,a3,a4,b0,b1,b2,b3,b4,e,t,m⟩)):=fun w=>by
 unfold lO;simp only
 by_cases k1:k=1
 ·subst k1;rw[if_pos (by decide)];go_enter Tryz.func65,Tryz.ntmps65;go_wp2;go_ret;exact⟨rfl,az _ _⟩
 have q1:(k==1)=ρ:=by simpa using k1
 by_cases k2:k=2
 ·subst k2;rw[if_pos (by decide)];go_enter Tryz.func65,Tryz.ntmps65;go_wp2;go_ret;exact⟨rfl,az _ _⟩
 have q2:(k==2)=ρ:=by simpa using k2
 by_cases k4:k=4
 ·subst k4;rw[if_pos (by decide)];go_enter Tryz.func65,Tryz.ntmps65;go_wp2;go_ret;exact⟨rfl,az _ _⟩
 have q4:(k==4)=ρ:=by simpa using k4
 by_cases k7:k=7
 ·subst k7;rw[if_pos (by decide)];go_enter Tryz.func65,Tryz.ntmps65;go_wp2;go_ret;exact⟨rfl,az _ _⟩
 have q7:(k==7)=ρ:=by simpa using k7
 rw[if_neg (by omega)]
 by_cases k3:k=3
 ·subst k3;rw[if_pos rfl];have ha:=qI a0 a1 a2 a3 a4;have Iz:=qI b0 b1 b2 b3 b4;obtain⟨A,gA⟩:=aB (Jn a0 a1 a2 a3 a4);obtain⟨B,gB⟩:=aB (Jn b0 b1 b2 b3 b4);rw[gA] at ha ⊢;rw[gB] at Iz ⊢;have HA:=qh ha;have HB:=qh Iz;clear ha Iz gA gB k1 k2 k4 k7 q1 q2 q4 q7;have tok:True:=trivial;cases A
  ·go_enter Tryz.func65,Tryz.ntmps65
   go_wp2_with (first
    |(go_at_call 88;refine(HA.out _).mono ?_;rintro e w1 ⟨rfl,cP⟩;obtain⟨DO,oH⟩:=ew cP))
   go_ret;exact⟨rfl,bc cP⟩
  ·go_enter Tryz.func65,Tryz.ntmps65
   go_wp2_with (first
    |(go_at_call 88;have _t:=tok;refine(HA.out _).mono ?_;rintro e w1 ⟨rfl,cP⟩;obtain⟨DO,oH⟩:=ew cP;clear tok)
    |(go_at_call 88;refine(HB.out _).mono ?_;rintro e w2 ⟨rfl,aP⟩;obtain⟨qB,Fy⟩:=ew aP))
   go_ret;exact⟨by first|(simp;done)|(simp;omega),(bc cP).trans (aP.mono (bc cP).size)⟩
 rw[if_neg k3];have q3:(k==3)=ρ:=by simpa using k3
 by_cases k5:k=5
 ·subst k5;rw[if_pos rfl];have ha:=iT s1 n1;have Iz:=iT s2 n2;obtain⟨A,gA⟩:=aB (dK s1 n1);obtain⟨B,gB⟩:=aB (dK s2 n2);rw[gA] at ha ⊢;rw[gB] at Iz ⊢;have HA:=qh ha;have HB:=qh Iz;clear ha Iz gA gB k1 k2 k4 k7 q1 q2 q4 q7 k3 q3;have tok:True:=trivial;cases A
  ·go_enter Tryz.func65,Tryz.ntmps65
   go_wp2_with (first
    |(go_at_call 64;refine(HA.out _).mono ?_;rintro e w1 ⟨rfl,cP⟩;obtain⟨DO,oH⟩:=ew cP))
   go_ret;exact⟨rfl,bc cP⟩
  ·cases B
   ·go_enter Tryz.func65,Tryz.ntmps65
    go_wp2_with (first
     |(go_at_call 64;have _t:=tok;refine(HA.out _).mono ?_;rintro e w1 ⟨rfl,cP⟩;obtain⟨DO,oH⟩:=ew cP;have pO:w.heap.size<w1.heap.size:=JaK (by simp) cP.size;clear tok)
     |(go_at_call 64;refine(HB.out _).mono ?_;rintro e w2 ⟨rfl,aP⟩;obtain⟨qB,Fy⟩:=ew aP))
    go_ret;exact⟨by first|(simp;done)|(simp;omega),(bc cP).trans (aP.mono (bc cP).size)⟩
   ·by_cases m0:0≤m
    ·by_cases m3:m≤3
     ·have hd:decide (0≤m∧m≤3)=τ:=decide_eq_true ⟨m0,m3⟩;rw[hd];clear hd;go_enter Tryz.func65,Tryz.ntmps65
      go_wp2_with (first
       |(go_at_call 64;have _t:=tok;refine(HA.out _).mono ?_;rintro e w1 ⟨rfl,cP⟩;obtain⟨DO,oH⟩:=ew cP;have pO:w.heap.size<w1.heap.size:=JaK (by simp) cP.size;clear tok)
       |(go_at_call 64;refine(HB.out _).mono ?_;rintro e w2 ⟨rfl,aP⟩;obtain⟨qB,Fy⟩:=ew aP))
      go_ret;exact⟨by first|(simp;done)|(simp;omega),(bc cP).trans (aP.mono (bc cP).size)⟩
     ·have hd:decide (0≤m∧m≤3)=ρ:=decide_eq_false (fun h=>m3 h.2);rw[hd];clear hd;go_enter Tryz.func65,Tryz.ntmps65
      go_wp2_with (first
       |(go_at_call 64;have _t:=tok;refine(HA.out _).mono ?_;rintro e w1 ⟨rfl,cP⟩;obtain⟨DO,oH⟩:=ew cP;have pO:w.heap.size<w1.heap.size:=JaK (by simp) cP.size;clear tok)
       |(go_at_call 64;refine(HB.out _).mono ?_;rintro e w2 ⟨rfl,aP⟩;obtain⟨qB,Fy⟩:=ew aP))
      go_ret;exact⟨by first|(simp;done)|(simp;omega),(bc cP).trans (aP.mono (bc cP).size)⟩
    ·have hd:decide (0≤m∧m≤3)=ρ:=decide_eq_false (fun h=>m0 h.1);rw[hd];clear hd;go_enter Tryz.func65,Tryz.ntmps65
     go_wp2_with (first
      |(go_at_call 64;have _t:=tok;refine(HA.out _).mono ?_;rintro e w1 ⟨rfl,cP⟩;obtain⟨DO,oH⟩:=ew cP;have pO:w.heap.size<w1.heap.size:=JaK (by simp) cP.size;clear tok)
      |(go_at_call 64;refine(HB.out _).mono ?_;rintro e w2 ⟨rfl,aP⟩;obtain⟨qB,Fy⟩:=ew aP))
     go_ret;exact⟨by first|(simp;done)|(simp;omega),(bc cP).trans (aP.mono (bc cP).size)⟩
 rw[if_neg k5];have q5:(k==5)=ρ:=by simpa using k5
 by_cases k6:k=6
 ·subst k6;rw[if_pos rfl];have H:=qh (iT s2 n2);obtain⟨A,gA⟩:=aB (dK s2 n2);rw[gA] at H ⊢;clear gA k1 k2 k4 k7 q1 q2 q4 q7 k3 q3 k5 q5;go_enter Tryz.func65,Tryz.ntmps65
  go_wp2_with (first
   |(go_at_call 64;refine(H.out _).mono ?_;rintro e w1 ⟨rfl,cP⟩;obtain⟨DO,oH⟩:=ew cP))
  go_ret;exact⟨rfl,bc cP⟩
 rw[if_neg k6];have q6:(k==6)=ρ:=by simpa using k6
 by_cases k8:k=8
 ·subst k8;rw[if_pos rfl];have H:=qh (Au m);obtain⟨A,gA⟩:=aB (Hi m);rw[gA] at H ⊢;clear gA k1 k2 k4 k7 q1 q2 q4 q7 k3 q3 k5 q5 k6 q6;go_enter Tryz.func65,Tryz.ntmps65
  go_wp2_with (first
   |(go_at_call 89;refine(H.out _).mono ?_;rintro e w1 ⟨rfl,cP⟩;obtain⟨DO,oH⟩:=ew cP))
  go_ret;exact⟨rfl,bc cP⟩
 ·have q8:(k==8)=ρ:=by simpa using k8
  rw[if_neg k8];clear k1 k2 k4 k7 k3 k5 k6 k8;go_enter Tryz.func65,Tryz.ntmps65;go_wp2;go_ret;exact⟨rfl,az _ _⟩
end Go.Proofs.YtpdpbfmiahjiiaaGreat
