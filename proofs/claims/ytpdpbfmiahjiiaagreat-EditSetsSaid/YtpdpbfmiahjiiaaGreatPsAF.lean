/- Several texts in one. -/
import Derived.Test.YtpdpbfmiahjiiaaGreatPsAA
import Derived.Test.YtpdpbfmiahjiiaaGreatPsAB
import Derived.Test.YtpdpbfmiahjiiaaGreatPsAC
import Derived.Test.YtpdpbfmiahjiiaaGreatPsAD
import Derived.Test.YtpdpbfmiahjiiaaGreatPsAE
import Derived.Shelf.Spec.SlicesInsertGrow
import Derived.Deep.LoopGhost
import Derived.Deep.RegionLaw
import Derived.Lib.SliceRun
set_option linter.unusedSectionVars false
set_option linter.unusedSimpArgs false
set_option linter.unusedVariables false
set_option maxRecDepth 100000
set_option maxHeartbeats 16000000
namespace Go.Proofs.YtpdpbfmiahjiiaaGreat
open Go.RowKit
open _root_.Go.Value renaming slice→γ,string→μ,agg→φ,bool→Β,tuple→Ξ,slice→Ο,agg→JbL
open _root_.Go.Obj renaming cells→δ
open _root_.Option renaming none→ε,some→ζ
open _root_.Go.Proofs.Tryz renaming prog→η
open _root_.List renaming getElem?_eq_getElem→θ,getElem?_eq_some_iff→ν,length_append→Ε,take_of_length_le→Ι,drop_eq_getElem_cons→Χ,getElem?_append_left→Jab,drop_of_length_le→Jak,drop_eq_nil_of_le→Jav,append_assoc→Jay,length_drop→Jaz,length_take→JaA,nil_append→JaF,drop_append→JaR,getElem?_drop→JaS,append_nil→Jbi,take_append→Jbt,mem_of_mem_drop→JbC,take_zero→JbQ
open _root_.Go.Act renaming put→ξ
open _root_.Go renaming World→ο,Value→ψ,Calls→Ζ,Addr→Κ,maxLen→Jap
open _root_.Bool renaming false→ρ,true→τ,and_eq_true→Jar
open _root_.Go.RowKit renaming Below→σ
open _root_.Go.RowKit.Below renaming refl→Θ
open _root_.Nat renaming le_trans→Λ,add_zero→Jac,zero_add→JaI,lt_of_lt_of_le→JaK,lt_or_ge→JaM,sub_self→JaP,min_def→JbR
open _root_.Go.Addr renaming add_lit→Ν
open _root_.Go.IntKind renaming i64→Jaw,wrap_i64→JaT
open _root_.And renaming intro→Jax
open _root_.Go.Builtin renaming zeroCells→JaO,copy_→Jbr
open _root_.Go.Departure renaming mixedOrders→JbG
theorem oL {W w':ο} {b:Nat} (h:Kept (fun x=>x=b) W w'):W.grownBy w' (ζ b):=⟨h.os,h.tape,h.output,h.size,fun i hi bj=>h.block i hi (fun e=>bj (by rw[e]))⟩
theorem rW {W w':ο} {r:Option Nat} (h:σ W.heap.size W w'):W.grownBy w' r:=⟨h.os,h.tape,h.output,h.size,fun i hi _=>h.block i hi⟩
theorem Fc:(η.info? 59).map (fun i=>(i.zero,i.size,i.bytes))=ζ (ζ (JbL #[J 0,J 0,γ ε 0 0,μ {data:=#[]},J 0]),5,64):=by kernel_rfl
theorem Qp (x:VC):ah vC [x]=vC x:=by simp[ah]
theorem AY {w W:ο} {B:Nat} {A:Option Κ} {n c vb:Nat} {G:List VC} (x:VC) (hO:Ow w B 59 5 (γ A n c) n (ah vC G) W) (hx:bg W W.heap.size 5 (ζ ⟨vb,0,ε⟩) 1 1 (ah vC [x])) (hn:n≤1000):
 Ζ η 138 #[γ A n c,J (n:Int),γ (ζ ⟨vb,0,ε⟩) 1 1] W fun e w'=>∃A' c',e=.returned (γ A' (n+1) c')∧Ow w B 59 5 (γ A' (n+1) c') (n+1) (ah vC (G++[x])) w'∧W.grownBy w' (Ο A n c).ownBlock:=by
 obtain⟨iG,sU,oS,jO,mC⟩:=aW Fc;have HO:=qh hO;have HL:=qh hx;have pU:n≤c:=(aK hO.own).le;have oz:=nB hO.own;unfold Jap at oz;have e1:((n:Int)==(n:Int))=τ:=by simp
 clear hO hx
 by_cases Cw:c=n
 ·go_enter Tryz.func138,Tryz.ntmps138
  go_wp2_with (first
   |(at_builtin
     refine cC rfl (.tmp 23) (.tmp 24) _ rfl _ 59 iG _ 5 64 Tryz.underlying22 sU oS jO mC rfl (by decide) _ _ _ rfl HO.out _ _ _ _ _ rfl HL.out (bU vC nQ [x]) (by unfold Jap;omega) (by omega) ?_;intro v5 W5 jv fP qV;obtain⟨A5,c5,rfl,-⟩:=jv.rds;have BE:=qh jv;have O6:=qh qV;clear jv fP qV))
  go_ret;exact⟨_,_,rfl,by rw[bY];exact BE.out,O6.out⟩
 ·go_enter Tryz.func138,Tryz.ntmps138
  go_wp2_with (first
   |(at_builtin
     refine cC rfl (.tmp 23) (.tmp 24) _ rfl _ 59 iG _ 5 64 Tryz.underlying22 sU oS jO mC rfl (by decide) _ _ _ rfl HO.out _ _ _ _ _ rfl HL.out (bU vC nQ [x]) (by unfold Jap;omega) (by omega) ?_;intro v5 W5 jv fP qV;obtain⟨A5,c5,rfl,-⟩:=jv.rds;have BE:=qh jv;have O6:=qh qV;clear jv fP qV))
  go_ret;exact⟨_,_,rfl,by rw[bY];exact BE.out,O6.out⟩
theorem JZ (rows junk new:List ψ) (i n:Nat) (hr:rows.length=n*5) (hi:i<n) (hj:5≤junk.length) (hn:new.length=5):
 cU (cU (rows++junk) ((i+1)*5) (rows.drop (i*5))) (i*5) new=(rows.take (i*5)++(new++rows.drop (i*5)))++junk.drop 5:=by
 obtain⟨P,hP⟩:=aB (rows.take (i*5));obtain⟨S,hS⟩:=aB (rows.drop (i*5));have hPS:rows=P++S:=by rw[←hP,←hS,List.take_append_drop]
 have R5:P.length=i*5:=by rw[←hP,JaA];omega
 have hSl:S.length=(n - i)*5:=by rw[←hS,Jaz];omega
 rw[hP,hS,hPS]
 have e1:cU (P++S++junk) ((i+1)*5) S=P++((S++junk).take 5++(S++junk.drop 5)):=by
  unfold cU;rw[Jay P S junk,Jbt,JaR,R5];rw[Ι (by omega),Jak (by omega),JaF,Jay];rw[show(i+1)*5 - i*5=5 by omega];congr 2;rw[JaR,Jak (by omega),JaF];rw[show(i+1)*5+S.length - i*5 - S.length=5 by omega]
 rw[e1];unfold cU;have DZ:((S++junk).take 5).length=5:=by rw[JaA,Ε];omega
 rw[Jbt,JaR,R5,hn,JaP,JbQ,Jbi,Ι (by omega),Jak (by omega),JaF];rw[show i*5+5 - i*5=5 by omega,JaR,DZ,Jak (by omega),JaF,JaP,List.drop_zero];simp[Jay]
theorem mH {G:List VC} (i:Nat):(ah vC G).take (i*5)=ah vC (G.take i)∧(ah vC G).drop (i*5)=ah vC (G.drop i):=⟨(iz vC aS G i).symm,(jt vC aS G i).symm⟩
theorem xX {w W:ο} {B:Nat} {A:Option Κ} {n c vb i:Nat} {G:List VC} (x:VC) (hO:Ow w B 59 5 (γ A n c) n (ah vC G) W) (hx:Whole W vb 59 (vC x)) (bj:ζ vb≠(Ο A n c).ownBlock) (hn:n≤1000) (hi:i<n) (CK:n+1≤c):
 Ζ η 138 #[γ A n c,J (i:Int),γ (ζ ⟨vb,0,ε⟩) 1 1] W fun e w'=>∃A' c',e=.returned (γ A' (n+1) c')∧Ow w B 59 5 (γ A' (n+1) c') (n+1) (ah vC (G.take i++x::G.drop i)) w'∧W.grownBy w' (Ο A n c).ownBlock:=by
 obtain⟨iG,sU,oS,jO,mC⟩:=aW Fc;obtain⟨b,junk,rfl,fw,hW,ln,pU,oz,j9⟩:=cN hO.own (by omega);have Bq:vb≠b:=fun e=>bj (by rw[e];rfl)
 have qq:(c - n)*5=junk.length:=by rw[Ε,j9] at ln;rw[Nat.sub_mul];omega
 have Sv:5≤junk.length:=by rw[←qq];omega
 unfold Jap at oz;have rB:(ah vC G++junk).length=c*5:=ln;have jJ:(n - i)*5=((ah vC G).drop (i*5)).length:=by rw[Jaz,j9,←Nat.sub_mul]
 have fU:(η.info? 59).map (·.size)=ζ 5:=by rw[sU];simp[jO]
 have G1:∀w,(Go.sizeOf 59).run η w=.ok 5 w:=fun w=>by simp[sizeOf,typeInfo,sU,jO]
 have TD:∀lb cb,(callFunc 156 #[γ (ζ ⟨vb,0,ε⟩) 1 1,γ (ζ ⟨b,(i+1)*5,ε⟩) lb cb]).run η W=.ok (.value (Β ρ)) W:=fun lb cb=>by
  rw[run_callFunc_extern Tryz.func156 (by kernel_rfl) (by kernel_rfl) (by kernel_rfl) (e:=Extern.SlicesOverlaps.overlaps #[22,22] #[4]) (by kernel_rfl),
   Lib.run_overlaps_apart W 22 4 59 Tryz.underlying22 5 G1 ⟨vb,0,ε⟩ ⟨b,(i+1)*5,ε⟩ 1 1 lb cb Bq 59 59 _ _ (iH hx) (iH hW) (by rw[ln];omega) (hx.free 0) (hx.free _)]
  rfl
 have zb:∀v∈(ah vC G).drop (i*5),v.oneCell'=τ:=fun v hv=>bU vC nQ G v (JbC hv)
 have DJ:∀ty dc sc,(Jbr #[22,22] ty #[γ (ζ ⟨b,(i+1)*5,ε⟩) (n - i) dc,γ (ζ ⟨b,i*5,ε⟩) (n+1 - i) sc]).run η W.drew=.ok (goInt (n - i:Nat)) (W.drew.setCells b ((i+1)*5) ((ah vC G).drop (i*5))):=fun ty dc sc=>
  da W.drew _ _ ty 59 5 b ((i+1)*5) (n - i) dc ⟨b,i*5,ε⟩ (n+1 - i) sc (n - i) _ Tryz.underlying22 fU (by simp only[JbR];split<;>omega) jJ
   (fun j v hj=>by
     rw[Ν];rw[JaS] at hj;exact hW.dr.cell (i:=i*5+j) (by rw[Jab (by have:=(ν.1 hj).1;omega)];exact hj))
   (fun j hj=>dA hW.dr (by rw[←jJ] at hj;rw[rB];omega)) (fun j hj=>hW.dr.free _) zb
 have oR:=hW.dr.cells_ ((ah vC G).drop (i*5)) ((i+1)*5) W.drew _ (by rw[←jJ,rB];omega);obtain⟨W1,aV⟩:=aB (W.drew.setCells b ((i+1)*5) ((ah vC G).drop (i*5)));have jq:Whole W1 vb 59 (vC x):=aV▸hx.dr.cells_far Bq _ _;have cP:σ w.heap.size w W1:=aV▸below_setCells hO.below.drew (Λ hO.lo fw) _ _;have pO:W1.heap.size=W.heap.size:=by rw[←aV,bJ];rfl
 rw[aV] at DJ oR;have a8:(cU (ah vC G++junk) ((i+1)*5) ((ah vC G).drop (i*5))).length=c*5:=by rw[eT _ _ _ (by rw[←jJ,rB];omega),rB]
 have OK:∀ty dc,(Jbr #[22,22] ty #[γ (ζ ⟨b,i*5,ε⟩) (n+1 - i) dc,γ (ζ ⟨vb,0,ε⟩) 1 1]).run η W1=.ok (goInt (1:Nat)) (W1.setCells b (i*5) (vC x)):=fun ty dc=>
  da W1 _ _ ty 59 5 b (i*5) (n+1 - i) dc ⟨vb,0,ε⟩ 1 1 1 _ Tryz.underlying22 fU (by simp only[JbR];split<;>omega) rfl
   (fun j v hj=>by
     rw[Ν,JaI];exact jq.cell hj)
   (fun j hj=>dA oR (by rw[a8];rw[aS] at hj;omega)) (fun j hj=>oR.free _) (nQ x)
 have AW:=oR.cells_ (vC x) (i*5) W1 _ (by rw[a8,aS];omega);rw[JZ (ah vC G) junk (vC x) i n j9 hi Sv (aS x),(mH i).1,(mH i).2] at AW;have iL:ah vC (G.take i)++(vC x++ah vC (G.drop i))=ah vC (G.take i++x::G.drop i):=by rw[bY];rfl
 rw[iL] at AW;have Tw:G.length=n:=(aK hO.own).rlen aS (by decide)
 have qx:(ah vC (G.take i++x::G.drop i)).length=(n+1)*5:=by
  rw[←iL,Ε,Ε,←(mH i).1,←(mH i).2,JaA,Jaz,j9,aS];omega
 have HF:Hid (Ow w B 59 5 (γ (ζ ⟨b,0,ε⟩) (n+1) c) (n+1) (ah vC (G.take i++x::G.drop i)) (W1.setCells b (i*5) (vC x))):=qh
  ⟨kk (junk:=junk.drop 5) AW fw (by rw[Ε,qx,Jaz,←qq];omega) CK (by unfold Jap;omega) qx,
   below_setCells cP (Λ hO.lo fw) _ _,hO.lo,by rw[bJ,pO];exact hO.hi⟩
 have Dg:Hid (W.grownBy (W1.setCells b (i*5) (vC x)) (ζ b)):=qh (by
  rw[←aV];exact oL (((Kept.refl (fun x=>x=b) W).drew).trans ((di (S:=fun x=>x=b) rfl _ _).trans (di (S:=fun x=>x=b) rfl _ _))))
 have kK:¬((i:Int)=(n:Int)):=by omega
 have ia:Jaw.wrap ((i:Int)+1)=(i:Int)+1:=by rw[JaT];omega
 have fT:Jaw.wrap ((n:Int)+1)=(n:Int)+1:=by rw[JaT];omega
 have cP:(0:Int)≤(i:Int)+1:=by omega
 have jm:i≤n:=by omega
 have Oz:((i:Int)+1).toNat=i+1:=by omega
 have aa4:((n:Int)+1).toNat=n+1:=by omega
 have aP:¬(c=i+1):=by omega
 have bA:(i:Int)≤(n:Int)+1:=by omega
 have ns:¬(c=i):=by omega
 have fP:¬(c:Int)<(n:Int)+1:=by omega
 have oE:(n:Int)+1≤(c:Int):=by omega
 have mixed:η.follows JbG=τ:=by kernel_rfl
 clear hO hx bj hW ln j9 Bq qq Sv rB jJ fU G1 zb oR aV jq a8 AW iL Tw qx pO;go_enter Tryz.func138,Tryz.ntmps138;go_wp2_with (simp only[TD])
 go_region_law_o (refine step_copy_runI rfl _ _ 22 22 rfl _ _ (by simp[Act.eval,ξ]) (by simp[Act.eval,ξ]) (DJ _ _ _) ?_);go_wp2_with (at_builtin;refine wpList_copy_runI _ rfl _ _ 22 22 rfl _ _ rfl rfl (OK _ _) ?_)
 go_ret;exact⟨_,_,rfl,HF.out,Dg.out⟩
theorem Fh (P Z new S:List ψ) (i:Nat) (hP:P.length=i*5) (hn:new.length=5) (hZ:5+S.length≤Z.length):
 cU (cU (P++Z) (i*5) new) ((i+1)*5) S=(P++(new++S))++Z.drop (5+S.length):=by
 have e1:cU (P++Z) (i*5) new=(P++new)++Z.drop 5:=by
  unfold cU;rw[Jbt,JaR,hP,hn,JaP,JbQ,Jbi,Ι (by omega),Jak (by omega),JaF];rw[show i*5+5 - i*5=5 by omega,Jay]
 have hl:(P++new).length=(i+1)*5:=by rw[Ε,hP,hn];omega
 rw[e1];unfold cU;rw[Jbt,JaR,hl,JaP,JbQ,Jbi,Ι (by omega),Jak (by omega),JaF];rw[show(i+1)*5+S.length - (i+1)*5=S.length by omega,List.drop_drop];simp[Jay]
theorem BX (k:Nat):(JaO (JbL #[J 0,J 0,γ ε 0 0,μ {data:=#[]},J 0]).cells k).size=k*5:=by
 simp[JaO,Value.cells]
theorem yg {w W:ο} {B:Nat} {A:Option Κ} {n vb i:Nat} {G:List VC} (x:VC) (hO:Ow w B 59 5 (γ A n n) n (ah vC G) W) (hx:Whole W vb 59 (vC x)) (hn:n≤1000) (hi:i<n):
 Ζ η 138 #[γ A n n,J (i:Int),γ (ζ ⟨vb,0,ε⟩) 1 1] W fun e w'=>∃A' c',e=.returned (γ A' (n+1) c')∧Ow w B 59 5 (γ A' (n+1) c') (n+1) (ah vC (G.take i++x::G.drop i)) w'∧W.grownBy w' (Ο A n n).ownBlock:=by
 obtain⟨iG,sU,oS,jO,mC⟩:=aW Fc;obtain⟨b,junk,rfl,fw,hW,ln,pU,oz,j9⟩:=cN hO.own (by omega);have jJ:(n - i)*5=((ah vC G).drop (i*5)).length:=by rw[Jaz,j9,←Nat.sub_mul]
 have a8:((ah vC G).take (i*5)).length=i*5:=by rw[JaA,j9];omega
 have fU:(η.info? 59).map (·.size)=ζ 5:=by rw[sU];simp[jO]
 have OW:i+(n+1 - i)=n+1:=by omega
 have vj:(n:Int)+1 - (i:Int)=((n+1 - i:Nat):Int):=by omega
 have zb:∀v∈(ah vC G).drop (i*5),v.oneCell'=τ:=fun v hv=>bU vC nQ G v (JbC hv)
 have hold:(Builtin.firstCells iG.size i (γ (ζ ⟨b,0,ε⟩) i n)).run η W.drew=.ok ((ah vC G).take (i*5)).toArray W.drew:=by
  rw[jO]
  exact run_firstCells_some W.drew 5 i ⟨b,0,ε⟩ i n _ a8 (fun j v hj=>by
   rw[Ν,JaI];rw[List.getElem?_take] at hj;split at hj
   ·exact hW.dr.cell (i:=j) (by rw[Jab (ν.1 hj).1];exact hj)
   ·cases hj)
 obtain⟨g,hg⟩:=aB W.heap.size;obtain⟨GC,IM⟩:=aB (grownCap W (n+1) n 59);have Y9:n+1≤GC:=by rw[←IM];exact grownCap_ge W _ _ _
 have Dj:GC≤Jap:=by rw[←IM];exact grownCap_le_maxLen W (n+1) n 59 (by unfold Jap;omega)
 obtain⟨qS,xe⟩:=aB (((ah vC G).take (i*5)).toArray++JaO (JbL #[J 0,J 0,γ ε 0 0,μ {data:=#[]},J 0]).cells (n+1 - i)++JaO (JbL #[J 0,J 0,γ ε 0 0,μ {data:=#[]},J 0]).cells (GC - (n+1)))
 have Tk:∀ty,(Builtin.append_ #[22,3] ty #[γ (ζ ⟨b,0,ε⟩) i n,J ((n:Int)+1 - (i:Int))]).run η W=.ok (γ (ζ ⟨g,0,ε⟩) (n+1) GC) (W.drew.alloc (δ qS 59)):=fun ty=>by
  have h:=Lib.run_append_grow_zeros W 22 3 ty 59 iG _ .i64 .i64 Tryz.underlying22 Tryz.underlying3 sU oS (ζ ⟨b,0,ε⟩) i n _ hold (n+1 - i) (by omega) (by omega) (by omega) (by omega) (by rw[mC];omega) (by rw[mC,OW];exact growslice_fits (by omega) (by omega));rw[OW,hg,IM,xe] at h;rw[vj];exact h
 obtain⟨Z,hZ⟩:=aB ((JaO (JbL #[J 0,J 0,γ ε 0 0,μ {data:=#[]},J 0]).cells (n+1 - i)++JaO (JbL #[J 0,J 0,γ ε 0 0,μ {data:=#[]},J 0]).cells (GC - (n+1))).toList)
 have G3:Z.length=(GC - i)*5:=by
  rw[←hZ,Array.length_toList,Array.size_append,BX,BX];omega
 have N0:qS=((ah vC G).take (i*5)++Z).toArray:=by
  rw[←xe,←hZ];simp
 have SZ:b≠g:=by have:=hW.lt;omega
 have YO:vb≠g:=by have:=hx.lt;omega
 obtain⟨P,hP⟩:=aB ((ah vC G).take (i*5));obtain⟨S,hS⟩:=aB ((ah vC G).drop (i*5));rw[hP] at a8 N0;rw[hS] at jJ zb;have BP:(P++Z).length=GC*5:=by rw[Ε,a8,G3];omega
 have AZ:Whole (W.drew.alloc (δ qS 59)) g 59 (P++Z):=by
  rw[N0];exact Whole.new2 hg.symm
 have Lm:Whole (W.drew.alloc (δ qS 59)) vb 59 (vC x):=hx.dr.alloc _;have Nc:Whole (W.drew.alloc (δ qS 59)) b 59 (ah vC G++junk):=hW.dr.alloc _;have YN:=hO.below.size;have iQ:σ w.heap.size w (W.drew.alloc (δ qS 59)):=aI (aN hO.below) _;have ly:(W.drew.alloc (δ qS 59)).heap.size=W.heap.size+1:=by simp
 have Wv:σ W.heap.size W (W.drew.alloc (δ qS 59)):=aI (aN (Θ _ _)) _;obtain⟨V1,fD⟩:=aB (W.drew.alloc (δ qS 59));rw[fD] at AZ Lm Nc iQ ly Tk Wv
 have xk:∀V,V=V1→∀ty dc,(Jbr #[22,22] ty #[γ (ζ ⟨g,i*5,ε⟩) (n+1 - i) dc,γ (ζ ⟨vb,0,ε⟩) 1 1]).run η V=.ok (goInt (1:Nat)) (V1.setCells g (i*5) (vC x)):=fun V hV ty dc=>by
  subst hV
  exact da V _ _ ty 59 5 g (i*5) (n+1 - i) dc ⟨vb,0,ε⟩ 1 1 1 _ Tryz.underlying22 fU (by simp only[JbR];split<;>omega) rfl
   (fun j v hj=>by
     rw[Ν,JaI];exact Lm.cell hj)
   (fun j hj=>dA AZ (by rw[BP];rw[aS] at hj;omega)) (fun j hj=>AZ.free _) (nQ x)
 have BR:=AZ.cells_ (vC x) (i*5) V1 _ (by rw[BP,aS];omega);have OG:Whole (V1.setCells g (i*5) (vC x)) b 59 (ah vC G++junk):=Nc.cells_far SZ _ _;have jd:σ w.heap.size w (V1.setCells g (i*5) (vC x)):=below_setCells iQ (by omega) _ _;have T3:σ W.heap.size W (V1.setCells g (i*5) (vC x)):=below_setCells Wv (by omega) _ _;have kK:(V1.setCells g (i*5) (vC x)).heap.size=W.heap.size+1:=by rw[bJ,ly]
 obtain⟨V2,yV⟩:=aB (V1.setCells g (i*5) (vC x));rw[yV] at BR OG jd kK xk T3;have ob:(cU (P++Z) (i*5) (vC x)).length=GC*5:=by rw[eT _ _ _ (by rw[BP,aS];omega),BP]
 have Mz:∀ty dc sc,(Jbr #[22,22] ty #[γ (ζ ⟨g,(i+1)*5,ε⟩) (n - i) dc,γ (ζ ⟨b,i*5,ε⟩) (n - i) sc]).run η V2.drew=.ok (goInt (n - i:Nat)) (V2.drew.setCells g ((i+1)*5) S):=fun ty dc sc=>
  da V2.drew _ _ ty 59 5 g ((i+1)*5) (n - i) dc ⟨b,i*5,ε⟩ (n - i) sc (n - i) _ Tryz.underlying22 fU (by simp only[JbR];split<;>omega) jJ
   (fun j v hj=>by
     rw[Ν];rw[←hS,JaS] at hj;exact OG.dr.cell (i:=i*5+j) (by rw[Jab (ν.1 hj).1];exact hj))
   (fun j hj=>dA BR.dr (by rw[←jJ] at hj;rw[ob];omega)) (fun j hj=>BR.dr.free _) zb
 have La:=BR.dr.cells_ S ((i+1)*5) V2.drew _ (by rw[←jJ,ob];omega);rw[Fh P Z (vC x) S i a8 (aS x) (by rw[←jJ,G3];omega)] at La;have iL:P++(vC x++S)=ah vC (G.take i++x::G.drop i):=by rw[←hP,←hS,(mH i).1,(mH i).2,bY];rfl
 have qx:(P++(vC x++S)).length=(n+1)*5:=by rw[Ε,Ε,a8,aS,←jJ];omega
 have DW:(Z.drop (5+S.length)).length=(GC - (n+1))*5:=by rw[Jaz,G3,←jJ];omega
 have HF:Hid (Ow w B 59 5 (γ (ζ ⟨g,0,ε⟩) (n+1) GC) (n+1) (ah vC (G.take i++x::G.drop i)) (V2.drew.setCells g ((i+1)*5) S)):=qh (by
  rw[←iL];exact⟨kk (junk:=Z.drop (5+S.length)) La (by have:=hO.hi;omega) (by rw[Ε,qx,DW];omega) Y9 Dj qx,below_setCells (aN jd) (by omega) _ _,hO.lo,by rw[bJ];show B≤V2.heap.size;have:=hO.hi;omega⟩)
 have Dg:Hid (W.grownBy (V2.drew.setCells g ((i+1)*5) S) (ζ b)):=qh (rW (below_setCells (aN T3) (by omega) _ _));have hz3:¬((i:Int)=(n:Int)):=by omega
 have ia:Jaw.wrap ((i:Int)+1)=(i:Int)+1:=by rw[JaT];omega
 have fT:Jaw.wrap ((n:Int)+1)=(n:Int)+1:=by rw[JaT];omega
 have du:Jaw.wrap ((n:Int)+1 - (i:Int))=(n:Int)+1 - (i:Int):=by rw[JaT];omega
 have cP:(0:Int)≤(i:Int)+1:=by omega
 have jm:i≤n:=by omega
 have Oz:((i:Int)+1).toNat=i+1:=by omega
 have aP:¬(GC=i+1):=by omega
 have bA:(i:Int)≤(n:Int):=by omega
 have ns:¬(n=i):=by omega
 have fP:¬(GC=i):=by omega
 have oE:(n:Int)<(n:Int)+1:=by omega
 unfold Jap at Dj;have mixed:η.follows JbG=τ:=by kernel_rfl
 subst fD;have My:∀ty dc,(Jbr #[22,22] ty #[γ (ζ ⟨g,i*5,ε⟩) (n+1 - i) dc,γ (ζ ⟨vb,0,ε⟩) 1 1]).run η (W.alloc (δ qS 59)).drew=.ok (goInt (1:Nat)) V2:=fun ty dc=>xk _ rfl ty dc
 clear xk yV;clear hO hx hW ln j9 YO SZ jJ fU zb hold a8 OW vj xe G3 N0 hZ BP AZ Lm Nc iQ ly Wv T3 BR OG jd kK ob La iL qx DW hP hS IM YN;go_enter Tryz.func138,Tryz.ntmps138
 go_wp2_with (first
  |(at_builtin;refine Lib.wpList_append_run _ rfl _ _ _ _ rfl _ _ rfl rfl _ _ (Tk _) ?_)
  |(at_builtin;refine wpList_copy_runI _ rfl _ _ 22 22 rfl _ _ rfl rfl (My _ _) ?_))
 go_region_law_o (refine step_copy_runI rfl _ _ 22 22 rfl _ _ (by simp[Act.eval,ξ]) (by simp[Act.eval,ξ]) (Mz _ _ _) ?_);go_wp2;go_ret;exact⟨_,_,rfl,HF.out,Dg.out⟩
theorem zN {w W:ο} {B:Nat} {A:Option Κ} {n c vb i:Nat} {G:List VC} (x:VC) (hO:Ow w B 59 5 (γ A n c) n (ah vC G) W) (hx:Whole W vb 59 (vC x)) (bj:ζ vb≠(Ο A n c).ownBlock) (hn:n≤1000) (hi:i≤n):
 Ζ η 138 #[γ A n c,J (i:Int),γ (ζ ⟨vb,0,ε⟩) 1 1] W fun e w'=>∃A' c',e=.returned (γ A' (n+1) c')∧Ow w B 59 5 (γ A' (n+1) c') (n+1) (ah vC (G.take i++x::G.drop i)) w'∧W.grownBy w' (Ο A n c).ownBlock:=by
 have pU:n≤c:=(aK hO.own).le;have Tw:G.length=n:=(aK hO.own).rlen aS (by decide);rcases JaM i n with h|h
 ·rcases JaM n c with h2|h2
  ·exact xX x hO hx bj hn h h2
  ·obtain rfl:n=c:=by omega
   exact yg x hO hx hn h
 ·obtain rfl:n=i:=by omega
  rw[Ι (by omega),Jak (by omega)];exact AY x hO (by rw[Qp];exact bg.of_whole hx rfl) hn
theorem zh {P:Program} (w:ο) (t e ty:TypeId) (z:ψ) (zs:List ψ) (ht:P.underlying t=ζ (.slice e)) (hv:∀w,(zeroValue e).run P w=.ok z w) (hz:(JaO z.cells 1).toList=zs) (h1:∀v∈zs,v.oneCell'=τ) (b o c:Nat)
 (hc:∀j,j<zs.length→(w.cell? ⟨b,o+j,ε⟩).isSome=τ∧w.frozen? ⟨b,o+j,ε⟩=ρ):
 (Builtin.clear_ #[t] ty #[γ (ζ ⟨b,o,ε⟩) 1 c]).run P w=.ok (Ξ #[]) (w.setCells b o zs):=by
 have Py:=run_storeCells_cells (P:=P) b o zs 0 w (fun j hj=>by simpa using (hc j hj).1) (fun j hj=>by simpa using (hc j hj).2) h1;simp only[Jac] at Py;simp[Builtin.clear_,run_underlying ht,hv,hz,Py]
theorem zy (X junk Z:List ψ) (i n s:Nat) (hX:X.length=n*s) (hi:i<n) (hZ:Z.length=s):cU (cU (X++junk) (i*s) (X.drop ((i+1)*s))) ((n - 1)*s) Z=(X.take (i*s)++X.drop ((i+1)*s))++(Z++junk):=by
 obtain⟨p,hp⟩:=aB (i*s);have R2:(i+1)*s=p+s:=by rw[Nat.add_mul,Nat.one_mul,hp]
 obtain⟨q,hq⟩:=aB ((n - 1)*s)
 have hq1:n*s=q+s:=by
  obtain⟨m,rfl⟩:∃m,n=m+1:=⟨n - 1,by omega⟩
  rw[Nat.add_mul,Nat.one_mul,←hq];rfl
 have hpq:p≤q:=by rw[←hp,←hq];exact Nat.mul_le_mul_right _ (by omega)
 rw[hp,R2,hq];obtain⟨Pp,hPp⟩:=aB (X.take p);obtain⟨S,hS⟩:=aB (X.drop (p+s));have R5:Pp.length=p:=by rw[←hPp,JaA];omega
 have hSl:S.length=q - p:=by rw[←hS,Jaz];omega
 have h1:cU (X++junk) p S=(Pp++S)++(X++junk).drop q:=by
  unfold cU;rw[List.take_append_of_le_length (by omega),hPp,hSl,show p+(q - p)=q by omega,Jay]
 rw[hPp,hS,h1];have hl:(Pp++S).length=q:=by rw[Ε];omega
 have e2:∀D:List ψ,cU ((Pp++S)++D) q Z=(Pp++S)++(Z++D.drop s):=fun D=>by
  unfold cU;rw[List.take_left' hl,JaR,hl,Jak (by omega),JaF,hZ,show q+s - q=s by omega,Jay]
 rw[e2,List.drop_drop,List.drop_left' (by omega)]
theorem wO {α:Type} (f:α→List ψ) {k:Nat} (hf:∀x,(f x).length=k) (L:List α) (i:Nat):(ah f L).take (i*k)++(ah f L).drop ((i+1)*k)=ah f (L.eraseIdx i):=by
 rw[←iz f hf,←jt f hf,←bY,←List.eraseIdx_eq_take_drop_succ]
theorem Vn (w:ο):(zeroValue 59).run η w=.ok (φ #[J 0,J 0,γ ε 0 0,μ {data:=#[]},J 0]) w:=by
 obtain⟨i,h1,h2,_⟩:=aW lP;simp[zeroValue,typeInfo,h1,h2]
theorem Oc (g c i n:Nat) (L:List VC) (junk:List ψ) (w:ο) (h:Whole w g 59 (ah vC L++junk)) (hL:L.length=n) (hc:(ah vC L++junk).length=c*5) (hm:c≤Jap) (hi:i<n):
 Ζ η 139 #[γ (ζ ⟨g,0,ε⟩) n c,J (i:Int),J ((i:Int)+1)] w fun e w'=>e=.returned (γ (ζ ⟨g,0,ε⟩) (n - 1) c)∧Whole w' g 59 (ah vC (L.eraseIdx i)++([J 0,J 0,γ ε 0 0,μ {data:=#[]},J 0]++junk))∧Kept (fun b=>b=g) w w':=by
 obtain⟨i0,Bz,qJ,ly,kK⟩:=aW lP;obtain⟨X,gX⟩:=aB (ah vC L);have P9:X.length=n*5:=by rw[←gX,←hL];exact cj vC aS L
 have h1:∀u∈X,u.oneCell'=τ:=by rw[←gX];exact bU vC nQ L
 have hE:X.take (i*5)++X.drop ((i+1)*5)=ah vC (L.eraseIdx i):=by rw[←gX];exact wO vC aS L i
 rw[gX] at h hc;have ln:n*5+junk.length=c*5:=by rw[←hc,Ε,P9]
 unfold Jap at hm;obtain⟨j,gj⟩:=aB (i+1);have ZH:(i:Int)+1=(j:Int):=by omega
 obtain⟨news,mo⟩:∃news,news=X.drop (j*5):=⟨_,rfl⟩
 have hlen:news.length=(n - j)*5:=by rw[mo,Jaz,P9,Nat.sub_mul]
 obtain⟨A,hA,Mq⟩:∃A:Κ,(if c=j then ζ (⟨g,0,ε⟩:Κ) else ζ ⟨g,j*5,ε⟩)=ζ A∧Hid (∀t u,news[t]? =ζ u→w.drew.cell? (A.add t)=ζ u):=by
  by_cases hcj:c=j
  ·refine⟨⟨g,0,ε⟩,by simp[hcj],fun t u hu=>?_⟩
   have h0:news.length=0:=by rw[hlen];omega
   rw[List.length_eq_zero_iff.1 h0] at hu;simp at hu
  ·refine⟨⟨g,j*5,ε⟩,by simp[hcj],fun t u hu=>?_⟩
   rw[Ν];rw[mo,JaS] at hu;refine h.dr.cell (i:=j*5+t) ?_;rw[Jab (ν.1 hu).1];exact hu
 have s1:Hid (news.length=(n - j)*5):=hlen;have s2:Hid (∀u∈news,u.oneCell'=τ):=fun u hu=>h1 u (by rw[mo] at hu;exact JbC hu)
 have Yx:w.drew.there g (i*5) news.length:=(Whole.drew h).there_ (i*5) news.length (by rw[hc,hlen];omega);have s3:Hid (∀t,t<news.length→(w.drew.cell? ⟨g,0+i*5+t,ε⟩).isSome=τ∧w.drew.frozen? ⟨g,0+i*5+t,ε⟩=ρ):=qh (fun t ht=>by rw[JaI];exact Yx t ht);obtain⟨W1,oR⟩:∃W1,W1=w.drew.setCells g (0+i*5) news:=⟨_,rfl⟩
 have Gc:Whole W1 g 59 (cU (X++junk) (i*5) (X.drop ((i+1)*5))):=by
  rw[oR,JaI,gj,←mo];exact(Whole.drew h).cells_ news (i*5) w.drew _ (by rw[hc,hlen];omega)
 have vW:Kept (fun b=>b=g) w W1:=by
  rw[oR];exact(Kept.refl _ _).drew.trans (di (S:=fun b=>b=g) rfl _ _)
 have a8:(cU (X++junk) (i*5) (X.drop ((i+1)*5))).length=c*5:=by rw[eT _ _ _ (by rw[gj,←mo,hc,hlen];omega),hc]
 have DW:([J 0,J 0,γ ε 0 0,μ {data:=#[]},J 0]:List ψ).length=5:=rfl
 have adt:∀ty cc,(Builtin.clear_ #[22] ty #[γ (ζ ⟨g,(n - 1)*5,ε⟩) 1 cc]).run η W1=.ok (Ξ #[]) (W1.setCells g ((n - 1)*5) [J 0,J 0,γ ε 0 0,μ {data:=#[]},J 0]):=
  fun ty cc=>zh W1 _ _ ty _ _ Tryz.underlying22 Vn (by first|kernel_rfl|(simp[JaO,Value.cells];rfl)) (by simp[Value.oneCell']) g ((n - 1)*5) _ (fun t ht=>(Gc.there_ ((n - 1)*5) 5 (by rw[a8];omega)) t ht)
 have jw:Whole (W1.setCells g ((n - 1)*5) [J 0,J 0,γ ε 0 0,μ {data:=#[]},J 0]) g 59 (ah vC (L.eraseIdx i)++([J 0,J 0,γ ε 0 0,μ {data:=#[]},J 0]++junk)):=by
  have h9:=Gc.cells_ [J 0,J 0,γ ε 0 0,μ {data:=#[]},J 0] ((n - 1)*5) W1 _ (by rw[a8,DW];omega);rw[zy X junk [J 0,J 0,γ ε 0 0,μ {data:=#[]},J 0] i n 5 P9 hi DW,hE] at h9;exact h9
 have HE:=qh jw;have HK:Hid (Kept (fun b=>b=g) w (W1.setCells g ((n - 1)*5) [J 0,J 0,γ ε 0 0,μ {data:=#[]},J 0])):=qh (vW.trans (di (S:=fun b=>b=g) rfl _ _));have hW:Hid (W1=w.drew.setCells g (0+i*5) news):=oR;have hic:i≤c:=by omega
 have hjc:j≤c:=by omega
 have ur:i≤j:=by omega
 have heq:¬i=j:=by omega
 have nT:j≤n:=by omega
 have pU:n≤c:=by omega
 have hN:i+(n - j)=n - 1:=by omega
 have AZ:n - (n - 1)=1:=by omega
 have mixed:η.follows JbG=τ:=by kernel_rfl
 rw[ZH];clear oR Gc vW a8 jw mo hlen Yx h hc h1 hi ln gj ZH gX P9 hE DW hL;go_enter Tryz.func139,Tryz.ntmps139;go_wp2_with fail
 go_region_law_o (refine step_append_room rfl (.tmp 22) (.tmp 25) 22 rfl 59 i0 5 Tryz.underlying22 Bz ly g 0 i c (by simp[Act.eval,ξ]) A (n - j) (c - j) news (by simp[Act.eval,ξ]) s1.out Mq.out s2.out (by omega) s3.out ?_;rw[←hW.out]);go_wp2;go_ret;exact⟨rfl,HE.out,HK.out⟩
def GM (w:ο) (x:D) (ok:Bool) (e:Ending) (w':ο):Prop:=
 e=.returned (Ξ #[φ #[J x.1,J x.2.1,J x.2.2],Β ok])∧σ w.heap.size w w'
def ko (W:ο) (r:Rg):Prop:=r.2.2.1≤Jap∧bg W W.heap.size 3 r.1 r.2.1 r.2.2.1 (aA r.2.2.2)∧∀a,r.1=ζ a→∃cs,Whole W a.block 32 cs
theorem ko.bl {W W':ο} {r:Rg} (h:ko W r) (hb:σ W.heap.size W W'):ko W' r:=⟨h.1,h.2.1.bl hb,fun a ha=>(h.2.2 a ha).imp fun cs hc=>hc.bl hb⟩
theorem ko.grown {W W':ο} {r:Rg} {lo k n c:Nat} {T:TypeId} {A:Option Κ} {xs:List ψ} (h:ko W r) (ho:W.ownsRow lo T k (γ A n c) n xs) (hT:32≠T) (hg:W.grownBy W' (Ο A n c).ownBlock):ko W' r:=by
 have bj:∀a,r.1=ζ a→ζ a.block≠(Ο A n c).ownBlock:=fun a ha=>by
  obtain⟨cs,hw⟩:=h.2.2 a ha;exact bD ho hw hT
 exact⟨h.1,h.2.1.grown hg (fun a ha _=>bj a ha),fun a ha=>(h.2.2 a ha).imp fun cs hc=>hc.grown hg (bj a ha)⟩
theorem ko.cell {W:ο} {r:Rg} {g:Nat} {T:TypeId} {cs:List ψ} (h:ko W r) (hs:Whole W g T cs) (hT:32≠T) (i:Nat) (u:ψ):ko (W.setCell ⟨g,i,ε⟩ u) r:=by
 have bj:∀a,r.1=ζ a→a.block≠g:=fun a ha=>by
  obtain⟨cs,hw⟩:=h.2.2 a ha;exact hw.ne_ hs hT
 exact⟨h.1,h.2.1.far (fun _ a ha=>bj a ha) u,fun a ha=>(h.2.2 a ha).imp fun cs hc=>hc.far (bj a ha) u⟩
theorem ko.of_own {W:ο} {lo n c:Nat} {A:Option Κ} {L:List D} (h:W.ownsRow lo 32 3 (γ A n c) n (aA L)):ko W (A,n,c,L):=by
 refine⟨nB h,aK h,fun a ha=>?_⟩
 rcases h.2 with⟨h1,h2⟩|⟨g,cap,cur,h1,hb,hg,-⟩
 ·injection h1 with a1
  rw[show(A,n,c,L).1=A from rfl,a1] at ha;cases ha
 ·injection h1 with a1
  rw[show(A,n,c,L).1=A from rfl,a1] at ha;cases ha;exact⟨cur.toList,by show W.heap[g]? =_;rw[hg,Array.toArray_toList]⟩
theorem ko.nil_ (W:ο):ko W (ε,0,0,[]):=⟨Nat.zero_le _,bg.no _ _ _,fun a ha=>(by cases ha)⟩
theorem sz (n:Int):Pure 38 #[J n] (Β (eR n)):=fun w=>by
 unfold eR
 by_cases h1:-1099511627776≤n
 ·by_cases h2:n≤1099511627776
  ·rw[decide_eq_true ⟨h1,h2⟩];go_enter Tryz.func38,Tryz.ntmps38;go_wp2;go_ret;exact⟨rfl,Θ _ _⟩
  ·rw[decide_eq_false (fun h=>h2 h.2)];go_enter Tryz.func38,Tryz.ntmps38;go_wp2;go_ret;exact⟨rfl,Θ _ _⟩
 ·rw[decide_eq_false (fun h=>h1 h.1)];go_enter Tryz.func38,Tryz.ntmps38;go_wp2;go_ret;exact⟨rfl,Θ _ _⟩
theorem Vr (A:Option Κ) (n c:Nat) (Vs:List VC) (B:Option Κ) (m k:Nat) (Es:List EC) (x1 x2:Int) (w:ο) (h:bg w w.heap.size 5 A n c (ah vC Vs)) (hn:n≤140737488355328):
 Ζ η 27 #[φ #[γ A n c,γ B m k],φ #[J x1,J x2]] w fun e w'=>e=.returned (Ξ #[φ (vC (eP Vs (x1,x2)).1).toArray,Β (eP Vs (x1,x2)).2])∧σ w.heap.size w w':=by
 have H:=qh h;have Hl:=qh (h.rlen aS (by decide));obtain⟨⟨r,ok⟩,gr⟩:∃z,eP Vs (x1,x2)=z:=⟨_,rfl⟩
 rw[gr];have HG:=qh gr;clear h gr;go_enter Tryz.func27,Tryz.ntmps27;go_wp2;obtain⟨W0,b0,b1,b2,bO,bp,dE,jc,aQ,aL,aZ,bw,mQ,lZ,oa,uD,iP,X0,eI,uW,RA,tU⟩:=Bs w 25 [γ A n c,γ B m k] 30 [J x1,J x2] 59 [J 0,J 0,γ ε 0 0,μ {data:=#[]},J 0];rw[bO,jc,dE,bp];clear bO bp dE jc;go_loopw [6] (fun si wr=>∃j:Nat,j≤n∧si=J j∧Hid (σ w.heap.size w wr)∧Hid (Whole wr b0 25 [γ A n c,γ B m k])∧Hid (Whole wr b1 30 [J x1,J x2])∧Hid (Whole wr b2 59 [J 0,J 0,γ ε 0 0,μ {data:=#[]},J 0])∧Hid (eP (Vs.drop j) (x1,x2)=(r,ok))) (fun si _=>n - (intOf si).toNat)
 case atStart=>exact⟨0,by omega,rfl,bw,aQ,aL,aZ,HG⟩
 case round=>
  clear bw aQ aL aZ HG;obtain⟨j,hj,rfl,HB,aQ,aL,aZ,HG⟩:=hrel;obtain⟨wo,cS⟩:=aB wr;rw[cS] at HB aQ aL aZ ⊢;clear cS
  by_cases nT:j<n
  ·obtain⟨x,hx⟩:∃x,Vs[j]? =ζ x:=⟨_,θ (by have:=Hl.out;omega)⟩
   have kd:Vs.drop j=x::Vs.drop (j+1):=by
    rw[Χ (ν.1 hx).1,(ν.1 hx).2]
   have iZ:=HG.out;rw[kd] at iZ;have dQ:=qh iZ;obtain⟨bb,off,rfl,aY,a8⟩:=H.out.place aS (by decide) (by omega);have XT:Hid (bb<wo.heap.size):=qh (JaK aY HB.out.size);have bC:=HB.out;have q0:=a8 j _ hx 0 _ rfl;have q1:=a8 j _ hx 1 _ rfl;have q2:=a8 j _ hx 2 _ rfl;have q3:=a8 j _ hx 3 _ rfl;have q4:=a8 j _ hx 4 _ rfl;simp only[Ν,Jac] at q0 q1 q2 q3 q4;have l0:=(bC.cell (p:=⟨bb,off+j*5,ε⟩) aY).trans q0;have l1:=(bC.cell (p:=⟨bb,off+j*5+1,ε⟩) aY).trans q1;have l2:=(bC.cell (p:=⟨bb,off+j*5+2,ε⟩) aY).trans q2;have l3:=(bC.cell (p:=⟨bb,off+j*5+3,ε⟩) aY).trans q3;have l4:=(bC.cell (p:=⟨bb,off+j*5+4,ε⟩) aY).trans q4;clear bC q0 q1 q2 q3 q4;obtain⟨⟨i1,i2⟩,⟨rA,rn,rc,rL⟩,lb,at_⟩:=x;have HE:=qh (Jax l0 (Jax l1 (Jax l2 (Jax l3 l4))));have cb:=aQ.out.cell (i:=0) rfl;clear hx kd iZ a8 aY HG;have Ux:=l0;go_upto_region 4 with fail
   clear cb Ux;have NH:=cm (i:=0) aQ.out rfl;have WM:=cm (i:=0) aL.out rfl;have TT:=cm (i:=1) aL.out rfl;have lde:=cz l0;have ldf:=cz l1;clear l0 l1 l2 l3 l4;have heq:=fun W=>Gw i1 i2 x1 x2 W
   obtain⟨bq,yb⟩:=aB ((i1==x1 && i2==x2));rw[yb] at heq;have Lg:=qh yb;clear yb;refine ay (aO) (by kernel_rfl) ?_;refine aa 0 ?_;refine aa 1 ?_;refine aa 2 ?_;refine aa 3 ?_;refine aa 4 ?_;refine aa 5 ?_;refine aa 6 ?_;refine aa 7 ?_;refine aF (by kernel_rfl) ?_ _;intro W3 du;have j6:=qh (aQ.out.dr.bl du);have eD:=qh (aL.out.dr.bl du);have cE:=qh (aZ.out.dr.bl du);have sO:Hid (σ wo.heap.size wo W3):=qh (ag (aN (Θ _ _)) du);have bB:=qh (ag HB.out sO.out);clear du NH WM TT lde ldf HB aQ aL aZ heq;cases bq with
   |true=>
    have hq:=Lg.out;rw[Jar,beq_iff_eq,beq_iff_eq] at hq;have hg:=dQ.out;rw[eP,sE _ _ _ _ _ (by rw[hq.1,hq.2])] at hg;injection hg with xL iZ
    subst xL iZ;obtain⟨l0,l1,l2,l3,l4⟩:=HE.out;have KG:=sO.out;have AS:=XT.out;have cb:=j6.out.cell (i:=0) rfl;have f0:=cE.out.free 0;have k0:=cE.out.cell (i:=0) rfl;have y0:=(KG.cell (p:=⟨bb,off+j*5,ε⟩) AS).trans l0;have f1:=cE.out.free 1;have k1:=cE.out.cell (i:=1) rfl;have y1:=(KG.cell (p:=⟨bb,off+j*5+1,ε⟩) AS).trans l1;have f2:=cE.out.free 2;have k2:=cE.out.cell (i:=2) rfl;have y2:=(KG.cell (p:=⟨bb,off+j*5+2,ε⟩) AS).trans l2;have f3:=cE.out.free 3;have k3:=cE.out.cell (i:=3) rfl;have y3:=(KG.cell (p:=⟨bb,off+j*5+3,ε⟩) AS).trans l3;have f4:=cE.out.free 4;have k4:=cE.out.cell (i:=4) rfl;have y4:=(KG.cell (p:=⟨bb,off+j*5+4,ε⟩) AS).trans l4;have HY:=qh (((((cE.out.set_ 0 (J i1)).set_ 1 (J i2)).set_ 2 (γ rA rn rc)).set_ 3 (μ lb)).set_ 4 (J at_));have rQ:=qh (((((bB.out.setCell (p:=⟨b2,0,ε⟩) eI.out (J i1)).setCell (p:=⟨b2,1,ε⟩) eI.out (J i2)).setCell (p:=⟨b2,2,ε⟩) eI.out (γ rA rn rc)).setCell (p:=⟨b2,3,ε⟩) eI.out (μ lb)).setCell (p:=⟨b2,4,ε⟩) eI.out (J at_));clear cE dQ bB hq l0 l1 l2 l3 l4 HE KG sO;go_wp2;exact bS rfl b2 rfl rfl HY.out Tryz.underlying59 rfl (by kernel_rfl) rfl ⟨rfl,rQ.out⟩
   |false=>
    have hg:=dQ.out
    rw[eP,wP _ _ _ _ _ (fun e=>by
     have e1:i1=x1:=congrArg Prod.fst e;have e2:i2=x2:=congrArg Prod.snd e
     have:=Lg.out
     rw[e1,e2] at this;simp at this)] at hg
    have Bx:=qh hg;clear hg dQ HE sO;go_wp2;go_roundw
    case rel=>exact⟨j+1,by omega,by go_num,bB,j6,eD,cE,Bx⟩
    case measure=>simp[intOf];omega
  ·obtain rfl:n=j:=by omega
   have hg:=HG.out;rw[Jav (by have:=Hl.out;omega)] at hg;replace hg:(zV,ρ)=(r,ok):=hg;injection hg with xL iZ
   subst xL iZ;have cb:=aQ.out.cell (i:=0) rfl;have f0:=aZ.out.free 0;have k0:=aZ.out.cell (i:=0) rfl;have f1:=aZ.out.free 1;have k1:=aZ.out.cell (i:=1) rfl;have f2:=aZ.out.free 2;have k2:=aZ.out.cell (i:=2) rfl;have f3:=aZ.out.free 3;have k3:=aZ.out.cell (i:=3) rfl;have f4:=aZ.out.free 4;have k4:=aZ.out.cell (i:=4) rfl;have HY:=qh (((((aZ.out.set_ 0 (J 0)).set_ 1 (J 0)).set_ 2 (γ ε 0 0)).set_ 3 (μ {data:=#[]})).set_ 4 (J 0));have rQ:=qh (((((HB.out.setCell (p:=⟨b2,0,ε⟩) eI.out (J 0)).setCell (p:=⟨b2,1,ε⟩) eI.out (J 0)).setCell (p:=⟨b2,2,ε⟩) eI.out (γ ε 0 0)).setCell (p:=⟨b2,3,ε⟩) eI.out (μ {data:=#[]})).setCell (p:=⟨b2,4,ε⟩) eI.out (J 0));clear HG aZ;go_wp2;exact bS rfl b2 rfl rfl HY.out Tryz.underlying59 rfl (by kernel_rfl) rfl ⟨rfl,rQ.out⟩
theorem UZ (A:Option Κ) (n c:Nat) (Vs:List VC) (B:Option Κ) (m k:Nat) (Es:List EC) (x1 x2:Int) (w:ο) (h:bg w w.heap.size 4 B m k (ah eC Es)) (hn:m≤140737488355328):
 Ζ η 30 #[φ #[γ A n c,γ B m k],φ #[J x1,J x2]] w fun e w'=>e=.returned (Ξ #[φ (eC (wu Es (x1,x2)).1).toArray,Β (wu Es (x1,x2)).2])∧σ w.heap.size w w':=by
 have H:=qh h;have Hl:=qh (h.rlen bM (by decide));obtain⟨⟨r,ok⟩,gr⟩:∃z,wu Es (x1,x2)=z:=⟨_,rfl⟩
 rw[gr];have HG:=qh gr;clear h gr;go_enter Tryz.func30,Tryz.ntmps30;go_wp2;obtain⟨W0,b0,b1,b2,bO,bp,dE,jc,aQ,aL,aZ,bw,mQ,lZ,oa,uD,iP,X0,eI,uW,RA,tU⟩:=Bs w 25 [γ A n c,γ B m k] 30 [J x1,J x2] 67 [J 0,J 0,μ {data:=#[]},J 0];rw[bO,jc,dE,bp];clear bO bp dE jc;go_loopw [6] (fun si wr=>∃j:Nat,j≤m∧si=J j∧Hid (σ w.heap.size w wr)∧Hid (Whole wr b0 25 [γ A n c,γ B m k])∧Hid (Whole wr b1 30 [J x1,J x2])∧Hid (Whole wr b2 67 [J 0,J 0,μ {data:=#[]},J 0])∧Hid (wu (Es.drop j) (x1,x2)=(r,ok))) (fun si _=>m - (intOf si).toNat)
 case atStart=>exact⟨0,by omega,rfl,bw,aQ,aL,aZ,HG⟩
 case round=>
  clear bw aQ aL aZ HG;obtain⟨j,hj,rfl,HB,aQ,aL,aZ,HG⟩:=hrel;obtain⟨wo,cS⟩:=aB wr;rw[cS] at HB aQ aL aZ ⊢;clear cS
  by_cases nT:j<m
  ·obtain⟨x,hx⟩:∃x,Es[j]? =ζ x:=⟨_,θ (by have:=Hl.out;omega)⟩
   have kd:Es.drop j=x::Es.drop (j+1):=by
    rw[Χ (ν.1 hx).1,(ν.1 hx).2]
   have iZ:=HG.out;rw[kd] at iZ;have dQ:=qh iZ;obtain⟨bb,off,rfl,aY,a8⟩:=H.out.place bM (by decide) (by omega);have XT:Hid (bb<wo.heap.size):=qh (JaK aY HB.out.size);have bC:=HB.out;have q0:=a8 j _ hx 0 _ rfl;have q1:=a8 j _ hx 1 _ rfl;have q2:=a8 j _ hx 2 _ rfl;have q3:=a8 j _ hx 3 _ rfl;simp only[Ν,Jac] at q0 q1 q2 q3;have l0:=(bC.cell (p:=⟨bb,off+j*4,ε⟩) aY).trans q0;have l1:=(bC.cell (p:=⟨bb,off+j*4+1,ε⟩) aY).trans q1;have l2:=(bC.cell (p:=⟨bb,off+j*4+2,ε⟩) aY).trans q2;have l3:=(bC.cell (p:=⟨bb,off+j*4+3,ε⟩) aY).trans q3;clear bC q0 q1 q2 q3;obtain⟨⟨i1,i2⟩,lb,at_⟩:=x;have HE:=qh (Jax l0 (Jax l1 (Jax l2 l3)));have cb:=aQ.out.cell (i:=1) rfl;clear hx kd iZ a8 aY HG;have Ux:=l0;go_upto_region 4 with fail
   clear cb Ux;have NH:=cm (i:=1) aQ.out rfl;have WM:=cm (i:=0) aL.out rfl;have TT:=cm (i:=1) aL.out rfl;have lde:=cz l0;have ldf:=cz l1;clear l0 l1 l2 l3;have heq:=fun W=>Gw i1 i2 x1 x2 W
   obtain⟨bq,yb⟩:=aB ((i1==x1 && i2==x2));rw[yb] at heq;have Lg:=qh yb;clear yb;refine ay (aO) (by kernel_rfl) ?_;refine aa 0 ?_;refine aa 1 ?_;refine aa 2 ?_;refine aa 3 ?_;refine aa 4 ?_;refine aa 5 ?_;refine aa 6 ?_;refine aa 7 ?_;refine aF (by kernel_rfl) ?_ _;intro W3 du;have j6:=qh (aQ.out.dr.bl du);have eD:=qh (aL.out.dr.bl du);have cE:=qh (aZ.out.dr.bl du);have sO:Hid (σ wo.heap.size wo W3):=qh (ag (aN (Θ _ _)) du);have bB:=qh (ag HB.out sO.out);clear du NH WM TT lde ldf HB aQ aL aZ heq;cases bq with
   |true=>
    have hq:=Lg.out;rw[Jar,beq_iff_eq,beq_iff_eq] at hq;have hg:=dQ.out;rw[wu,sE _ _ _ _ _ (by rw[hq.1,hq.2])] at hg;injection hg with xL iZ
    subst xL iZ;obtain⟨l0,l1,l2,l3⟩:=HE.out;have KG:=sO.out;have AS:=XT.out;have cb:=j6.out.cell (i:=1) rfl;have f0:=cE.out.free 0;have k0:=cE.out.cell (i:=0) rfl;have y0:=(KG.cell (p:=⟨bb,off+j*4,ε⟩) AS).trans l0;have f1:=cE.out.free 1;have k1:=cE.out.cell (i:=1) rfl;have y1:=(KG.cell (p:=⟨bb,off+j*4+1,ε⟩) AS).trans l1;have f2:=cE.out.free 2;have k2:=cE.out.cell (i:=2) rfl;have y2:=(KG.cell (p:=⟨bb,off+j*4+2,ε⟩) AS).trans l2;have f3:=cE.out.free 3;have k3:=cE.out.cell (i:=3) rfl;have y3:=(KG.cell (p:=⟨bb,off+j*4+3,ε⟩) AS).trans l3;have HY:=qh ((((cE.out.set_ 0 (J i1)).set_ 1 (J i2)).set_ 2 (μ lb)).set_ 3 (J at_));have rQ:=qh ((((bB.out.setCell (p:=⟨b2,0,ε⟩) eI.out (J i1)).setCell (p:=⟨b2,1,ε⟩) eI.out (J i2)).setCell (p:=⟨b2,2,ε⟩) eI.out (μ lb)).setCell (p:=⟨b2,3,ε⟩) eI.out (J at_));clear cE dQ bB hq l0 l1 l2 l3 HE KG sO;go_wp2;exact bS rfl b2 rfl rfl HY.out Tryz.underlying67 rfl (by kernel_rfl) rfl ⟨rfl,rQ.out⟩
   |false=>
    have hg:=dQ.out
    rw[wu,wP _ _ _ _ _ (fun e=>by
     have e1:i1=x1:=congrArg Prod.fst e;have e2:i2=x2:=congrArg Prod.snd e
     have:=Lg.out
     rw[e1,e2] at this;simp at this)] at hg
    have Bx:=qh hg;clear hg dQ HE sO;go_wp2;go_roundw
    case rel=>exact⟨j+1,by omega,by go_num,bB,j6,eD,cE,Bx⟩
    case measure=>simp[intOf];omega
  ·obtain rfl:m=j:=by omega
   have hg:=HG.out;rw[Jav (by have:=Hl.out;omega)] at hg;replace hg:(zE,ρ)=(r,ok):=hg;injection hg with xL iZ
   subst xL iZ;have cb:=aQ.out.cell (i:=1) rfl;have f0:=aZ.out.free 0;have k0:=aZ.out.cell (i:=0) rfl;have f1:=aZ.out.free 1;have k1:=aZ.out.cell (i:=1) rfl;have f2:=aZ.out.free 2;have k2:=aZ.out.cell (i:=2) rfl;have f3:=aZ.out.free 3;have k3:=aZ.out.cell (i:=3) rfl;have HY:=qh ((((aZ.out.set_ 0 (J 0)).set_ 1 (J 0)).set_ 2 (μ {data:=#[]})).set_ 3 (J 0));have rQ:=qh ((((HB.out.setCell (p:=⟨b2,0,ε⟩) eI.out (J 0)).setCell (p:=⟨b2,1,ε⟩) eI.out (J 0)).setCell (p:=⟨b2,2,ε⟩) eI.out (μ {data:=#[]})).setCell (p:=⟨b2,3,ε⟩) eI.out (J 0));clear HG aZ;go_wp2;exact bS rfl b2 rfl rfl HY.out Tryz.underlying67 rfl (by kernel_rfl) rfl ⟨rfl,rQ.out⟩
end Go.Proofs.YtpdpbfmiahjiiaaGreat
