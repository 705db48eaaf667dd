/- Several texts in one. -/
import Derived.Test.YtpdpbfmiahjiiaaGreatPlAA
import Derived.Test.YtpdpbfmiahjiiaaGreatPlAB
import Derived.Test.YtpdpbfmiahjiiaaGreatPlAC
import Derived.Test.YtpdpbfmiahjiiaaGreatPlAD
import Derived.Test.YtpdpbfmiahjiiaaGreatPlAE
import Derived.Deep.LoopGhost
import Derived.Deep.RegionLaw
import Derived.Lib.SliceRun
set_option linter.unusedSectionVars false
set_option linter.unusedSimpArgs false
set_option linter.unusedVariables false
set_option maxRecDepth 100000
set_option maxHeartbeats 16000000
namespace Go.Proofs.YtpdpbfmiahjiiaaGreat
open Go.RowKit
open _root_.Go.Value renaming slice→γ,string→μ,agg→φ,bool→Β,tuple→Ξ,slice→Ο,oneCell'→Τ
open _root_.Go.Obj renaming cells→δ
open _root_.Option renaming none→ε,some→ζ
open _root_.Go.Proofs.Tryz renaming prog→η
open _root_.List renaming getElem?_eq_getElem→θ,getElem?_eq_some_iff→ν,mem_of_getElem?→ω,length_append→Ε,mem_cons→Η,take_of_length_le→Ι,drop_eq_getElem_cons→Χ,getElem?_append_left→Jab,drop_eq_nil_of_le→Jav,append_assoc→Jay,length_drop→Jaz,getElem?_drop→JaS,mem_of_mem_drop→JbC
open _root_.Go.Act renaming put→ξ
open _root_.Go renaming World→ο,Value→ψ,Calls→Ζ,Addr→Κ,TypeId→Υ,maxLen→Jap,bodyPost_ret→JaN
open _root_.Bool renaming false→ρ,true→τ,and_eq_true→Jar
open _root_.Go.RowKit renaming Below→σ
open _root_.Nat renaming le_refl→Δ,le_trans→Λ,add_zero→Jac,zero_le→Jas,zero_add→JaI,lt_of_lt_of_le→JaK
open _root_.Go.RowKit.Below renaming refl→Θ
open _root_.Go.Addr renaming add_lit→Ν
open _root_.And renaming intro→Jax
open _root_.Exists renaming intro→JaG
open _root_.Go.Builtin renaming zeroCells→JaO
open _root_.Prod.mk renaming injEq→Jba
open _root_.Go.World renaming size_alloc→JbF
open _root_.Go.Departure renaming mixedOrders→JbG
theorem xC {P:Program} (w:ο) (t e ty:Υ) (z:ψ) (zs:List ψ) (ht:P.underlying t=ζ (.slice e)) (hv:∀w,(zeroValue e).run P w=.ok z w) (hz:(JaO z.cells 1).toList=zs) (h1:∀v∈zs,v.oneCell'=τ) (b o c:Nat)
 (hc:∀j,j<zs.length→(w.cell? ⟨b,o+j,ε⟩).isSome=τ∧w.frozen? ⟨b,o+j,ε⟩=ρ):
 (Builtin.clear_ #[t] ty #[γ (ζ ⟨b,o,ε⟩) 1 c]).run P w=.ok (Ξ #[]) (w.setCells b o zs):=by
 have Gd:=run_storeCells_cells (P:=P) b o zs 0 w (fun j hj=>by simpa using (hc j hj).1) (fun j hj=>by simpa using (hc j hj).2) h1;simp only[Jac] at Gd;simp[Builtin.clear_,run_underlying ht,hv,hz,Gd]
theorem xD (X junk Z:List ψ) (i n s:Nat) (hX:X.length=n*s) (hi:i<n) (hZ:Z.length=s):eF (eF (X++junk) (i*s) (X.drop ((i+1)*s))) ((n - 1)*s) Z=(X.take (i*s)++X.drop ((i+1)*s))++(Z++junk):=by
 obtain⟨p,hp⟩:=az (i*s);have WO:(i+1)*s=p+s:=by rw[Nat.add_mul,Nat.one_mul,hp]
 obtain⟨q,hq⟩:=az ((n - 1)*s)
 have hq1:n*s=q+s:=by
  obtain⟨m,rfl⟩:∃m,n=m+1:=⟨n - 1,by omega⟩
  rw[Nat.add_mul,Nat.one_mul,←hq];rfl
 have hpq:p≤q:=by rw[←hp,←hq];exact Nat.mul_le_mul_right _ (by omega)
 rw[hp,WO,hq];obtain⟨Pp,ZI⟩:=az (X.take p);obtain⟨S,hS⟩:=az (X.drop (p+s));have SD:Pp.length=p:=by rw[←ZI,List.length_take];omega
 have Yj:S.length=q - p:=by rw[←hS,Jaz];omega
 have h1:eF (X++junk) p S=(Pp++S)++(X++junk).drop q:=by
  unfold eF;rw[List.take_append_of_le_length (by omega),ZI,Yj,show p+(q - p)=q by omega,Jay]
 rw[ZI,hS,h1];have hl:(Pp++S).length=q:=by rw[Ε];omega
 have e2:∀D:List ψ,eF ((Pp++S)++D) q Z=(Pp++S)++(Z++D.drop s):=fun D=>by
  unfold eF;rw[List.take_left' hl,List.drop_append,hl,List.drop_of_length_le (by omega),List.nil_append,hZ,show q+s - q=s by omega,Jay]
 rw[e2,List.drop_drop,List.drop_left' (by omega)]
theorem uJ {α:Type} (f:α→List ψ) {k:Nat} (hf:∀x,(f x).length=k) (L:List α) (i:Nat):(ao f L).take (i*k)++(ao f L).drop ((i+1)*k)=ao f (L.eraseIdx i):=by
 rw[←jy f hf,←nj f hf,←bX,←List.eraseIdx_eq_take_drop_succ]
theorem QA (w:ο):(zeroValue 59).run η w=.ok (φ #[J 0,J 0,γ ε 0 0,μ {data:=#[]},J 0]) w:=by
 obtain⟨i,h1,h2,_⟩:=a6 gU;simp[zeroValue,typeInfo,h1,h2]
theorem JT (g c i n:Nat) (L:List VC) (junk:List ψ) (w:ο) (h:Whole w g 59 (ao vC L++junk)) (hL:L.length=n) (hc:(ao vC L++junk).length=c*5) (hm:c≤Jap) (hi:i<n):
 Ζ η 139 #[γ (ζ ⟨g,0,ε⟩) n c,J (i:Int),J ((i:Int)+1)] w fun e w'=>e=.returned (γ (ζ ⟨g,0,ε⟩) (n - 1) c)∧Whole w' g 59 (ao vC (L.eraseIdx i)++([J 0,J 0,γ ε 0 0,μ {data:=#[]},J 0]++junk))∧Kept (fun b=>b=g) w w':=by
 obtain⟨i0,EV,nz,j7,kZ⟩:=a6 gU;obtain⟨X,gX⟩:=az (ao vC L);have OH:X.length=n*5:=by rw[←gX,←hL];exact cy vC aN L
 have h1:∀u∈X,u.oneCell'=τ:=by rw[←gX];exact cS vC j3 L
 have hE:X.take (i*5)++X.drop ((i+1)*5)=ao vC (L.eraseIdx i):=by rw[←gX];exact uJ vC aN L i
 rw[gX] at h hc;have qI:n*5+junk.length=c*5:=by rw[←hc,Ε,OH]
 unfold Jap at hm;obtain⟨j,gj⟩:=az (i+1);have TM:(i:Int)+1=(j:Int):=by omega
 obtain⟨news,mI⟩:∃news,news=X.drop (j*5):=⟨_,rfl⟩
 have hlen:news.length=(n - j)*5:=by rw[mI,Jaz,OH,Nat.sub_mul]
 obtain⟨A,hA,Ka⟩:∃A:Κ,(if c=j then ζ (⟨g,0,ε⟩:Κ) else ζ ⟨g,j*5,ε⟩)=ζ A∧Hid (∀t u,news[t]? =ζ u→w.drew.cell? (A.add t)=ζ u):=by
  by_cases T5:c=j
  ·refine⟨⟨g,0,ε⟩,by simp[T5],fun t u hu=>?_⟩
   have h0:news.length=0:=by rw[hlen];omega
   rw[List.length_eq_zero_iff.1 h0] at hu;simp at hu
  ·refine⟨⟨g,j*5,ε⟩,by simp[T5],fun t u hu=>?_⟩
   rw[Ν];rw[mI,JaS] at hu;refine h.dr.cell (i:=j*5+t) ?_;rw[Jab (ν.1 hu).1];exact hu
 have s1:Hid (news.length=(n - j)*5):=hlen;have s2:Hid (∀u∈news,u.oneCell'=τ):=fun u hu=>h1 u (by rw[mI] at hu;exact JbC hu)
 have Tv:w.drew.there g (i*5) news.length:=(Whole.drew h).there_ (i*5) news.length (by rw[hc,hlen];omega);have s3:Hid (∀t,t<news.length→(w.drew.cell? ⟨g,0+i*5+t,ε⟩).isSome=τ∧w.drew.frozen? ⟨g,0+i*5+t,ε⟩=ρ):=qh (fun t ht=>by rw[JaI];exact Tv t ht);obtain⟨W1,wZ⟩:∃W1,W1=w.drew.setCells g (0+i*5) news:=⟨_,rfl⟩
 have DH:Whole W1 g 59 (eF (X++junk) (i*5) (X.drop ((i+1)*5))):=by
  rw[wZ,JaI,gj,←mI];exact(Whole.drew h).cells_ news (i*5) w.drew _ (by rw[hc,hlen];omega)
 have tR:Kept (fun b=>b=g) w W1:=by
  rw[wZ];exact(Kept.refl _ _).drew.trans (fL (S:=fun b=>b=g) rfl _ _)
 have bD:(eF (X++junk) (i*5) (X.drop ((i+1)*5))).length=c*5:=by rw[iP _ _ _ (by rw[gj,←mI,hc,hlen];omega),hc]
 have GS:([J 0,J 0,γ ε 0 0,μ {data:=#[]},J 0]:List ψ).length=5:=rfl
 have aaN:∀ty cc,(Builtin.clear_ #[22] ty #[γ (ζ ⟨g,(n - 1)*5,ε⟩) 1 cc]).run η W1=.ok (Ξ #[]) (W1.setCells g ((n - 1)*5) [J 0,J 0,γ ε 0 0,μ {data:=#[]},J 0]):=
  fun ty cc=>xC W1 _ _ ty _ _ Tryz.underlying22 QA (by first|kernel_rfl|(simp[JaO,Value.cells];rfl)) (by simp[Τ]) g ((n - 1)*5) _ (fun t ht=>(DH.there_ ((n - 1)*5) 5 (by rw[bD];omega)) t ht)
 have nc:Whole (W1.setCells g ((n - 1)*5) [J 0,J 0,γ ε 0 0,μ {data:=#[]},J 0]) g 59 (ao vC (L.eraseIdx i)++([J 0,J 0,γ ε 0 0,μ {data:=#[]},J 0]++junk)):=by
  have h9:=DH.cells_ [J 0,J 0,γ ε 0 0,μ {data:=#[]},J 0] ((n - 1)*5) W1 _ (by rw[bD,GS];omega);rw[xD X junk [J 0,J 0,γ ε 0 0,μ {data:=#[]},J 0] i n 5 OH hi GS,hE] at h9;exact h9
 have HE:=qh nc;have HK:Hid (Kept (fun b=>b=g) w (W1.setCells g ((n - 1)*5) [J 0,J 0,γ ε 0 0,μ {data:=#[]},J 0])):=qh (tR.trans (fL (S:=fun b=>b=g) rfl _ _));have hW:Hid (W1=w.drew.setCells g (0+i*5) news):=wZ;have hic:i≤c:=by omega
 have hjc:j≤c:=by omega
 have Fo:i≤j:=by omega
 have heq:¬i=j:=by omega
 have nF:j≤n:=by omega
 have tH:n≤c:=by omega
 have hN:i+(n - j)=n - 1:=by omega
 have Gc:n - (n - 1)=1:=by omega
 have mixed:η.follows JbG=τ:=by kernel_rfl
 rw[TM];clear wZ DH tR bD nc mI hlen Tv h hc h1 hi qI gj TM gX OH hE GS hL;go_enter Tryz.func139,Tryz.ntmps139;go_wp2_with fail
 go_region_law_o (refine step_append_room rfl (.tmp 22) (.tmp 25) 22 rfl 59 i0 5 Tryz.underlying22 EV j7 g 0 i c (by simp[Act.eval,ξ]) A (n - j) (c - j) news (by simp[Act.eval,ξ]) s1.out Ka.out s2.out (by omega) s3.out ?_;rw[←hW.out]);go_wp2;go_ret;exact⟨rfl,HE.out,HK.out⟩
theorem QB (w:ο):(zeroValue 67).run η w=.ok (φ #[J 0,J 0,μ {data:=#[]},J 0]) w:=by
 obtain⟨i,h1,h2,_⟩:=a6 jB;simp[zeroValue,typeInfo,h1,h2]
theorem Ji (g c i n:Nat) (L:List EC) (junk:List ψ) (w:ο) (h:Whole w g 67 (ao eC L++junk)) (hL:L.length=n) (hc:(ao eC L++junk).length=c*4) (hm:c≤Jap) (hi:i<n):
 Ζ η 154 #[γ (ζ ⟨g,0,ε⟩) n c,J (i:Int),J ((i:Int)+1)] w fun e w'=>e=.returned (γ (ζ ⟨g,0,ε⟩) (n - 1) c)∧Whole w' g 67 (ao eC (L.eraseIdx i)++([J 0,J 0,μ {data:=#[]},J 0]++junk))∧Kept (fun b=>b=g) w w':=by
 obtain⟨i0,EV,nz,j7,kZ⟩:=a6 jB;obtain⟨X,gX⟩:=az (ao eC L);have OH:X.length=n*4:=by rw[←gX,←hL];exact cy eC cM L
 have h1:∀u∈X,u.oneCell'=τ:=by rw[←gX];exact cS eC qg L
 have hE:X.take (i*4)++X.drop ((i+1)*4)=ao eC (L.eraseIdx i):=by rw[←gX];exact uJ eC cM L i
 rw[gX] at h hc;have qI:n*4+junk.length=c*4:=by rw[←hc,Ε,OH]
 unfold Jap at hm;obtain⟨j,gj⟩:=az (i+1);have TM:(i:Int)+1=(j:Int):=by omega
 obtain⟨news,mI⟩:∃news,news=X.drop (j*4):=⟨_,rfl⟩
 have hlen:news.length=(n - j)*4:=by rw[mI,Jaz,OH,Nat.sub_mul]
 obtain⟨A,hA,Ka⟩:∃A:Κ,(if c=j then ζ (⟨g,0,ε⟩:Κ) else ζ ⟨g,j*4,ε⟩)=ζ A∧Hid (∀t u,news[t]? =ζ u→w.drew.cell? (A.add t)=ζ u):=by
  by_cases T5:c=j
  ·refine⟨⟨g,0,ε⟩,by simp[T5],fun t u hu=>?_⟩
   have h0:news.length=0:=by rw[hlen];omega
   rw[List.length_eq_zero_iff.1 h0] at hu;simp at hu
  ·refine⟨⟨g,j*4,ε⟩,by simp[T5],fun t u hu=>?_⟩
   rw[Ν];rw[mI,JaS] at hu;refine h.dr.cell (i:=j*4+t) ?_;rw[Jab (ν.1 hu).1];exact hu
 have s1:Hid (news.length=(n - j)*4):=hlen;have s2:Hid (∀u∈news,u.oneCell'=τ):=fun u hu=>h1 u (by rw[mI] at hu;exact JbC hu)
 have Tv:w.drew.there g (i*4) news.length:=(Whole.drew h).there_ (i*4) news.length (by rw[hc,hlen];omega);have s3:Hid (∀t,t<news.length→(w.drew.cell? ⟨g,0+i*4+t,ε⟩).isSome=τ∧w.drew.frozen? ⟨g,0+i*4+t,ε⟩=ρ):=qh (fun t ht=>by rw[JaI];exact Tv t ht);obtain⟨W1,wZ⟩:∃W1,W1=w.drew.setCells g (0+i*4) news:=⟨_,rfl⟩
 have DH:Whole W1 g 67 (eF (X++junk) (i*4) (X.drop ((i+1)*4))):=by
  rw[wZ,JaI,gj,←mI];exact(Whole.drew h).cells_ news (i*4) w.drew _ (by rw[hc,hlen];omega)
 have tR:Kept (fun b=>b=g) w W1:=by
  rw[wZ];exact(Kept.refl _ _).drew.trans (fL (S:=fun b=>b=g) rfl _ _)
 have bD:(eF (X++junk) (i*4) (X.drop ((i+1)*4))).length=c*4:=by rw[iP _ _ _ (by rw[gj,←mI,hc,hlen];omega),hc]
 have GS:([J 0,J 0,μ {data:=#[]},J 0]:List ψ).length=4:=rfl
 have aaN:∀ty cc,(Builtin.clear_ #[23] ty #[γ (ζ ⟨g,(n - 1)*4,ε⟩) 1 cc]).run η W1=.ok (Ξ #[]) (W1.setCells g ((n - 1)*4) [J 0,J 0,μ {data:=#[]},J 0]):=
  fun ty cc=>xC W1 _ _ ty _ _ Tryz.underlying23 QB (by first|kernel_rfl|(simp[JaO,Value.cells];rfl)) (by simp[Τ]) g ((n - 1)*4) _ (fun t ht=>(DH.there_ ((n - 1)*4) 4 (by rw[bD];omega)) t ht)
 have nc:Whole (W1.setCells g ((n - 1)*4) [J 0,J 0,μ {data:=#[]},J 0]) g 67 (ao eC (L.eraseIdx i)++([J 0,J 0,μ {data:=#[]},J 0]++junk)):=by
  have h9:=DH.cells_ [J 0,J 0,μ {data:=#[]},J 0] ((n - 1)*4) W1 _ (by rw[bD,GS];omega);rw[xD X junk [J 0,J 0,μ {data:=#[]},J 0] i n 4 OH hi GS,hE] at h9;exact h9
 have HE:=qh nc;have HK:Hid (Kept (fun b=>b=g) w (W1.setCells g ((n - 1)*4) [J 0,J 0,μ {data:=#[]},J 0])):=qh (tR.trans (fL (S:=fun b=>b=g) rfl _ _));have hW:Hid (W1=w.drew.setCells g (0+i*4) news):=wZ;have hic:i≤c:=by omega
 have hjc:j≤c:=by omega
 have Fo:i≤j:=by omega
 have heq:¬i=j:=by omega
 have nF:j≤n:=by omega
 have tH:n≤c:=by omega
 have hN:i+(n - j)=n - 1:=by omega
 have Gc:n - (n - 1)=1:=by omega
 have mixed:η.follows JbG=τ:=by kernel_rfl
 rw[TM];clear wZ DH tR bD nc mI hlen Tv h hc h1 hi qI gj TM gX OH hE GS hL;go_enter Tryz.func154,Tryz.ntmps154;go_wp2_with fail
 go_region_law_o (refine step_append_room rfl (.tmp 22) (.tmp 25) 23 rfl 67 i0 4 Tryz.underlying23 EV j7 g 0 i c (by simp[Act.eval,ξ]) A (n - j) (c - j) news (by simp[Act.eval,ξ]) s1.out Ka.out s2.out (by omega) s3.out ?_;rw[←hW.out]);go_wp2;go_ret;exact⟨rfl,HE.out,HK.out⟩
def uc (w:ο) (x:D) (ok:Bool) (e:Ending) (w':ο):Prop:=
 e=.returned (Ξ #[φ #[J x.1,J x.2.1,J x.2.2],Β ok])∧σ w.heap.size w w'
theorem DU (A:Option Κ) (n c:Nat) (p:Int) (L:List D) (d:D) (w:ο) (h:aS w w.heap.size 3 A n c (aA L)) (hn:n≤1000000) (hp:d∈L→0≤p∧p≤1000000):
 Ζ η 169 #[γ A n c,φ #[J d.1,J d.2.1,J d.2.2],J p] w (uc w (pW L d p.toNat) (decide (d∈L))):=by
 have HI:=qh (fun W h=>qx A n c L d W h (by omega));have H:=qh h;have hl:=h.dlen
 by_cases hd:d∈L
 ·obtain⟨WO,Fj⟩:=hp hd;obtain⟨p,rfl⟩:=Int.eq_ofNat_of_zero_le WO;rw[Int.toNat_natCast];obtain⟨e1,e2⟩:=gO hd;rw[e1] at HI;obtain⟨k,gk⟩:=az (L.idxOf d);have hs:pW L d p=L.getD ((k+p) % n) (0,0,0):=by rw[pW,if_pos hd,gk,hl]
  rw[gk] at HI e2;have WU:k<n:=by omega
  obtain⟨b,off,rfl,hb,hc⟩:=h.darts (by omega);have hj:(k+p) % n<n:=Nat.mod_lt _ (by omega);have Cg:((k:Int)+(p:Int)) % (n:Int)=(((k+p) % n:Nat):Int):=by rw[Int.natCast_emod,Int.natCast_add]
  obtain⟨j,gj⟩:=az ((k+p) % n);rw[gj] at hs hj Cg;obtain⟨c1,c2,c3⟩:=hc j (by omega);obtain⟨x,gx⟩:=az (L.getD j (0,0,0));rw[gx] at hs c1 c2 c3;rw[hs,decide_eq_true hd];have C1:=qh c1;have C2:=qh c2;have C3:=qh c3;clear hs gx gj hc hd gk e1 e2 h hl c1 c2 c3 hp WO;go_enter Tryz.func169,Tryz.ntmps169
  go_wp2_with (first
   |(go_at_call 144;refine(HI.out _ (by exact H.out.up (bT _ _ _) (by simp<;>omega))).mono ?_;rintro e w2 ⟨rfl,ar⟩
     have HB:=qh (cI ar);have d1:=(HB.out.cell (p:=⟨b,off+j*3,ε⟩) hb).trans C1.out;have d2:=(HB.out.cell (p:=⟨b,off+j*3+1,ε⟩) hb).trans C2.out;have d3:=(HB.out.cell (p:=⟨b,off+j*3+2,ε⟩) hb).trans C3.out;have hz:=(Whole.new_ (w.alloc (δ #[J d.1,J d.2.1,J d.2.2] 32)) 32 [J 0,J 0,J 0]).below ar;simp only[JbF] at hz;have z0:=hz.cell (i:=0) rfl;have z1:=hz.cell (i:=1) rfl;have z2:=hz.cell (i:=2) rfl;have y0:=hz.free 0;have y1:=hz.free 1;have y2:=hz.free 2;clear ar hz))
  exact JaN (v:=Ξ #[φ #[J x.1,J x.2.1,J x.2.2],Β τ]) (by simp[results,Tryz.results169,go_sem,z0,z1,z2]) rfl ⟨rfl,((HB.out.setCell (by simp) _).setCell (by simp) _).setCell (by simp) _⟩
 ·have hs:pW L d p.toNat=(0,0,0):=by rw[pW,if_neg hd]
  rw[jE hd] at HI;rw[hs,decide_eq_false hd];clear hs h hd hl hp;go_enter Tryz.func169,Tryz.ntmps169
  go_wp2_with (first
   |(go_at_call 144;refine(HI.out _ (by exact H.out.up (bT _ _ _) (by simp<;>omega))).mono ?_;rintro e w2 ⟨rfl,ar⟩
     have HB:=qh (cI ar);have hz:=(Whole.new_ (w.alloc (δ #[J d.1,J d.2.1,J d.2.2] 32)) 32 [J 0,J 0,J 0]).below ar;simp only[JbF] at hz;have z0:=hz.cell (i:=0) rfl;have z1:=hz.cell (i:=1) rfl;have z2:=hz.cell (i:=2) rfl;have y0:=hz.free 0;have y1:=hz.free 1;have y2:=hz.free 2;clear ar hz))
  exact JaN (v:=Ξ #[φ #[J 0,J 0,J 0],Β ρ]) (by simp[results,Tryz.results169,go_sem,z0,z1,z2]) rfl ⟨rfl,((HB.out.setCell (by simp) _).setCell (by simp) _).setCell (by simp) _⟩
theorem xo (A:Option Κ) (n c:Nat) (L:List D) (d:D) (w:ο) (h:aS w w.heap.size 3 A n c (aA L)) (hn:n≤1000000):
 Ζ η 152 #[γ A n c,φ #[J d.1,J d.2.1,J d.2.2]] w (uc w (fm L d) (decide (d∈L))):=by
 have hs:fm L d=pW L d (((n:Int) - 1):Int).toNat:=by
  unfold fm;rw[show((n:Int) - 1).toNat=L.length - 1 by have:=h.dlen;omega]
 have HA:=qh (fun W h'=>DU A n c ((n:Int) - 1) L d W h' hn (by intro hd;have:=List.length_pos_of_mem hd;have:=h.dlen;omega));rw[hs];have H:=qh h;clear h hs;obtain⟨x,gx⟩:=az (pW L d (((n:Int) - 1):Int).toNat);obtain⟨ok,X6⟩:=az (decide (d∈L));rw[gx,X6] at HA;rw[gx,X6];clear gx X6;go_enter Tryz.func152,Tryz.ntmps152
 go_wp2_with (first
  |(go_at_call 169;refine(HA.out _ (by exact H.out.up (bT _ _ _) (by simp<;>omega))).mono ?_;rintro e w2 ⟨rfl,ar⟩
    have HB:=qh (cI ar);have hz:=(Whole.new_ (w.alloc (δ #[J d.1,J d.2.1,J d.2.2] 32)) 32 [J 0,J 0,J 0]).below ar;simp only[JbF] at hz;have z0:=hz.cell (i:=0) rfl;have z1:=hz.cell (i:=1) rfl;have z2:=hz.cell (i:=2) rfl;have y0:=hz.free 0;have y1:=hz.free 1;have y2:=hz.free 2;clear ar hz))
 exact JaN (v:=Ξ #[φ #[J x.1,J x.2.1,J x.2.2],Β ok]) (by simp[results,Tryz.results152,go_sem,z0,z1,z2]) rfl ⟨rfl,((HB.out.setCell (by simp) _).setCell (by simp) _).setCell (by simp) _⟩
def lj (W:ο) (r:Rg):Prop:=r.2.2.1≤Jap∧aS W W.heap.size 3 r.1 r.2.1 r.2.2.1 (aA r.2.2.2)∧∀a,r.1=ζ a→∃cs,Whole W a.block 32 cs
theorem lj.bl {W W':ο} {r:Rg} (h:lj W r) (hb:σ W.heap.size W W'):lj W' r:=⟨h.1,h.2.1.bl hb,fun a ha=>(h.2.2 a ha).imp fun cs hc=>hc.bl hb⟩
theorem lj.grown {W W':ο} {r:Rg} {lo k n c:Nat} {T:Υ} {A:Option Κ} {xs:List ψ} (h:lj W r) (ho:W.ownsRow lo T k (γ A n c) n xs) (hT:32≠T) (hg:W.grownBy W' (Ο A n c).ownBlock):lj W' r:=by
 have bQ:∀a,r.1=ζ a→ζ a.block≠(Ο A n c).ownBlock:=fun a ha=>by
  obtain⟨cs,hw⟩:=h.2.2 a ha;exact bM ho hw hT
 exact⟨h.1,h.2.1.grown hg (fun a ha _=>bQ a ha),fun a ha=>(h.2.2 a ha).imp fun cs hc=>hc.grown hg (bQ a ha)⟩
theorem lj.cell {W:ο} {r:Rg} {g:Nat} {T:Υ} {cs:List ψ} (h:lj W r) (hs:Whole W g T cs) (hT:32≠T) (i:Nat) (u:ψ):lj (W.setCell ⟨g,i,ε⟩ u) r:=by
 have bQ:∀a,r.1=ζ a→a.block≠g:=fun a ha=>by
  obtain⟨cs,hw⟩:=h.2.2 a ha;exact hw.ne_ hs hT
 exact⟨h.1,h.2.1.far (fun _ a ha=>bQ a ha) u,fun a ha=>(h.2.2 a ha).imp fun cs hc=>hc.far (bQ a ha) u⟩
theorem lj.of_own {W:ο} {lo n c:Nat} {A:Option Κ} {L:List D} (h:W.ownsRow lo 32 3 (γ A n c) n (aA L)):lj W (A,n,c,L):=by
 refine⟨fV h,bk h,fun a ha=>?_⟩
 rcases h.2 with⟨h1,h2⟩|⟨g,cap,cur,h1,hb,hg,-⟩
 ·injection h1 with a1
  rw[show(A,n,c,L).1=A from rfl,a1] at ha;cases ha
 ·injection h1 with a1
  rw[show(A,n,c,L).1=A from rfl,a1] at ha;cases ha;exact⟨cur.toList,by show W.heap[g]? =_;rw[hg,Array.toArray_toList]⟩
theorem lj.nil_ (W:ο):lj W (ε,0,0,[]):=⟨Jas _,aS.no _ _ _,fun a ha=>(by cases ha)⟩
def sL (w:ο) (L:List D) (e:Ending) (w':ο):Prop:=
 ∃A c,e=.returned (γ A L.length c)∧lj w' (A,L.length,c,L)∧σ w.heap.size w w'
theorem Ox (A:Option Κ) (n c lo:Nat) (h1:lo≤n) (h2:n≤c):∃X,(∀W,(Instr.slice 57 (γ A n c) (ζ (J (lo:Int))) (ζ (J (n:Int))) (ζ (J (n:Int)))).run η W=.ok (γ X (n - lo) (n - lo)) W)∧
 (∀W B L,aS W B 3 A n c (aA L)→aS W B 3 X (n - lo) (n - lo) (aA (L.drop lo)))∧∀P:Nat→Prop,(∀a,A=ζ a→P a.block)→∀a,X=ζ a→P a.block:=by
 refine⟨if n=lo then A else A.map (·.add (lo*3)),fun W=>?_,fun W B L h=>?_,fun P h a e=>?_⟩
 ·rw[run_slice_lhm W 57 A n c qv .i64 .i64 .i64 lo n n (by omega) (by omega) (by omega) (by omega),qG];simp[sliced,Result.andThen]
 ·have:=h.piece h1 (Δ n) (Δ n) h2
  rwa [Ι (by rw[h.dlen];omega)] at this
 ·split at e
  ·exact h a e
  ·cases A with
   |none=>cases e
   |some a0=>
    cases e;show P (a0.add (lo*3)).block;rw[cA];exact h a0 rfl
theorem sY (A:Option Κ) (n c:Nat) (Ps:List (List D)) (w:ο) (h:xg w A n Ps) (hn:n≤100) (hm:Ps.flatten.length≤1000000):
 Ζ η 153 #[γ A n c] w (sL w (aJ Ps.flatten)):=by
 obtain⟨i0,hi,nz,j7,kZ⟩:=info_parts mz;have H:=qh h;clear h;go_enter Tryz.func153,Tryz.ntmps153;go_wp2;go_loopw [3,11] (fun v i wr=>∃k:Nat,k≤n∧i=J k∧Ow w w.heap.size 32 3 v (Ps.take k).flatten.length (aA (Ps.take k).flatten) wr) (fun _ i _=>n - (intOf i).toNat)
 case atStart=>exact⟨0,Jas _,rfl,by simpa [aA] using Ow.nil_ (Θ _ w) (Δ _) (Δ _)⟩
 case round=>
  obtain⟨k,hk,rfl,fu⟩:=hrel;have HO:=qh fu
  by_cases eS:k<n
  ·obtain⟨b,off,A',c',rfl,hb,hc,hr⟩:=(H.out.up (fu.below)).part k eS;have HR:=qh hr;have HF:=qh (GU Ps k (by have:=H.out.len;omega))
   have hle:((Ps.take k).flatten.length+(Ps.getD k []).length)≤1000000:=by
    have:=ML Ps (k+1)
    rw[HF.out,Ε] at this;omega
   clear fu hr;obtain⟨P,gP⟩:=az (Ps.getD k []);rw[gP] at hc HR HF hle;clear gP
   go_wp2_with (first
    |(at_builtin
      refine eZ rfl (.tmp 15) (.tmp 16) _ rfl _ 32 i0 _ 3 24 Tryz.underlying57 hi nz j7 kZ rfl (by decide) _ _ _ rfl (by exact HO.out) _ _ _ _ _ rfl (by exact HR.out) (dW P) (by unfold Jap;omega) (by omega) ?_;intro v1 w1 eY fe;have lY:=qh eY;clear eY))
   go_roundw
   case rel=>
    refine⟨k+1,by omega,by go_num,?_⟩
    rw[HF.out,Ε,fa];exact lY.out
   case measure=>simp[intOf];omega
  ·have WU:k=n:=by omega
   have Po:Ps.take k=Ps:=Ι (by have:=H.out.len;omega);rw[Po] at HO;clear fu Po WU;obtain⟨L,gL⟩:=az Ps.flatten;rw[gL] at HO hm;have GL:=qh gL;clear gL;obtain⟨A1,c1,hv,BP⟩:=HO.out.rds;subst hv;have yu:∀a,A1=ζ a→∃cs,Whole wr a.block 32 cs:=fun a ha=>(lj.of_own (n:=L.length) (c:=c1) (A:=A1) (L:=L) HO.out.own).2.2 a ha
   have HFR:=qh yu;clear yu;have HR:=qh BP;clear BP;have HB:=qh HO.out.below;clear HO H;obtain⟨W1,rfl⟩:∃x:ο,x=wr:=⟨_,rfl⟩
   go_wp2;go_loopw [6,21] (fun lv i wr=>∃k:Nat,k≤L.length∧i=J k∧lv=J (cG L k:Int)∧σ W1.heap.size W1 wr) (fun _ i _=>L.length - (intOf i).toNat)
   case atStart=>exact⟨0,Jas _,rfl,rfl,Θ _ _⟩
   case round=>
    obtain⟨k2,F4,rfl,rfl,cR⟩:=hrel;have My:=qh cR
    by_cases Qa:k2<L.length
    ·obtain⟨b,off,rfl,hb,hc⟩:=(HR.out.up cR cR.size).darts (by omega);obtain⟨d1,d2,d3⟩:=hc k2 Qa;have M7:=mC L k2;have Jp:cG L k2<L.length:=by omega
     obtain⟨e1,e2,e3⟩:=hc (cG L k2) Jp;have hs:cG L (k2+1)=if oc (L.getD k2 (0,0,0)) (L.getD (cG L k2) (0,0,0))<0 then k2 else cG L k2:=rfl
     obtain⟨m,gm⟩:=az (cG L k2);rw[gm] at e1 e2 e3 M7 Jp hs ⊢;obtain⟨x,gx⟩:=az (L.getD k2 (0,0,0));obtain⟨y,gy⟩:=az (L.getD m (0,0,0));rw[gx] at d1 d2 d3 hs;rw[gy] at e1 e2 e3 hs;have HOr:=pZ x.1 x.2.1 x.2.2 y.1 y.2.1 y.2.2;have ho:lV x.1 x.2.1 x.2.2 y.1 y.2.1 y.2.2=oc x y:=rfl;obtain⟨ov,wO⟩:=az (oc x y);rw[ho,wO] at HOr;rw[wO] at hs;have LO:=qh HOr;have HS:=qh hs;clear hc cR gm gx gy ho wO HOr hs;go_upto_region 11 with fail
     obtain⟨X,gX⟩:=az (wr.alloc (δ #[J x.1,J x.2.1,J x.2.2] 32));have SP:σ wr.heap.size wr X:=by rw[←gX];exact ax _ _
     have hX:Whole X wr.heap.size 32 [J x.1,J x.2.1,J x.2.2]:=by rw[←gX];exact Whole.new_ wr _ _
     obtain⟨g,gg⟩:=az wr.heap.size;rw[gX,gg];rw[gg] at hX SP;have f0:∀w',Kept aT X.drew w'→w'.cell? ⟨g,0,ε⟩=ζ (J x.1):=fun w' h=>h.nil_cell (hX.cell rfl)
     have f1:∀w',Kept aT X.drew w'→w'.cell? ⟨g,1,ε⟩=ζ (J x.2.1):=fun w' h=>h.nil_cell (hX.cell rfl)
     have f2:∀w',Kept aT X.drew w'→w'.cell? ⟨g,2,ε⟩=ζ (J x.2.2):=fun w' h=>h.nil_cell (hX.cell rfl)
     have f3:∀w',Kept aT X.drew w'→w'.cell? ⟨b,off+m*3,ε⟩=ζ (J y.1):=fun w' h=>h.nil_cell ((SP.cell (by rw[←gg];exact hb)).trans e1)
     have f4:∀w',Kept aT X.drew w'→w'.cell? ⟨b,off+m*3+1,ε⟩=ζ (J y.2.1):=fun w' h=>h.nil_cell ((SP.cell (by rw[←gg];exact hb)).trans e2)
     have f5:∀w',Kept aT X.drew w'→w'.cell? ⟨b,off+m*3+2,ε⟩=ζ (J y.2.2):=fun w' h=>h.nil_cell ((SP.cell (by rw[←gg];exact hb)).trans e3)
     have hE:Hid (σ W1.heap.size W1 X):=My.out.trans ((show σ wr.heap.size wr X by rw[gg];exact SP).mono My.out.size);clear hX SP gX gg d1 d2 d3 e1 e2 e3
     by_cases ho:ov<0
     ·rw[if_pos ho] at HS;refine aw (aT) (by kernel_rfl) ?_;refine aq 0 ?_;refine aq 1 ?_;refine aq 2 ?_;refine aq 3 ?_;refine aq 4 ?_;refine bN 5 (hy:=by apply cz;rfl;rotate_left;intro w' aC;exact LO.out w';intro w';go_simp) (h:=?_);refine aq 6 ?_;refine aG (by kernel_rfl) ?_ _;intro w' aC;have Mq:Hid (σ W1.heap.size W1 w'):=(hE.out.drew).trans (aC.mono (by have:=hE.out.size;simpa using this));clear f0 f1 f2 f3 f4 f5 aC;go_wp2;go_roundw
      case rel=>exact⟨k2+1,by omega,by go_num,by rw[HS.out],Mq.out⟩
      case measure=>simp[intOf];omega
     ·rw[if_neg ho] at HS;refine aw (aT) (by kernel_rfl) ?_;refine aq 0 ?_;refine aq 1 ?_;refine aq 2 ?_;refine aq 3 ?_;refine aq 4 ?_;refine bN 5 (hy:=by apply cz;rfl;rotate_left;intro w' aC;exact LO.out w';intro w';go_simp) (h:=?_);refine aq 6 ?_;refine aG (by kernel_rfl) ?_ _;intro w' aC;have Mq:Hid (σ W1.heap.size W1 w'):=(hE.out.drew).trans (aC.mono (by have:=hE.out.size;simpa using this));clear f0 f1 f2 f3 f4 f5 aC;go_wp2;go_roundw
      case rel=>exact⟨k2+1,by omega,by go_num,by rw[HS.out],Mq.out⟩
      case measure=>simp[intOf];omega
    ·have Xb:k2=L.length:=by omega
     subst Xb;have M7:=mC L L.length;have ht:aJ L=L.drop (cG L L.length)++L.take (cG L L.length):=rfl;have hm0:0<L.length→cG L L.length<L.length:=fun h=>pD L L.length h
     obtain⟨m,gm⟩:=az (cG L L.length);rw[gm] at M7 ht hm0 ⊢;have HT:=qh ht;obtain⟨X1,EN,kI,hfx⟩:=Ox A1 L.length c1 m M7 HR.out.le;have HFX:=qh (hfx (fun b=>∃cs,Whole W1 b 32 cs) HFR.out);obtain⟨X2,Rf,qt⟩:=VJ A1 L.length c1 m M7 HR.out.le;have Yg:=qh (fun W B=>kI W B L);have Yl:=qh (fun W B=>qt W B L);clear ht gm kI qt cR hfx;go_upto_region 14 with fail
     have hE:Hid (σ W1.heap.size W1 wr.drew):=My.out.drew;have RR:=qh (HR.out.up hE.out hE.out.size);refine aw (aT) (by kernel_rfl) ?_;refine aq 0 ?_;refine aq 1 ?_;refine aq 2 ?_;refine aq 3 ?_;refine aq 4 ?_;refine aq 5 ?_;refine aq 6 ?_;refine aq 7 ?_;refine aq 8 ?_;refine aq 9 ?_;refine N7 10 ?_;intro w' aC
     have HG:∃A3 c3 cD,(Builtin.append_ #[57,57] 57 #[γ X1 (L.length - m) (L.length - m),γ X2 m c1]).run η w'=.ok (γ A3 L.length c3) cD∧lj cD (A3,L.length,c3,L.drop m++L.take m)∧σ w'.heap.size w' cD:=by
      have r1:=Yg.out w' _ (RR.out.up aC aC.size);have r2:=Yl.out w' _ (RR.out.up aC aC.size)
      by_cases h0:m=0
      ·subst h0
       refine⟨X1,L.length,w',?_,?_,Θ _ _⟩
       ·have:=tU (P:=η) w' 57 57 32 i0 Tryz.underlying57 hi X1 X2 (L.length - 0) (L.length - 0) c1 (Δ _)
        simpa using this
       ·refine⟨by show L.length≤Jap;unfold Jap;omega,by simpa using r1,fun a ha=>?_⟩
        obtain⟨cs,hc⟩:=HFX.out a ha;exact⟨cs,(hc.bl hE.out).bl aC⟩
      ·obtain⟨cap,cD,hr,fy,hb⟩:=tE (P:=η) w' 57 57 32 i0 _ 3 24 Tryz.underlying57 hi nz j7 kZ rfl (by decide) _ _ X1 X2 (L.length - m) m c1 _ _ r1 r2 (by omega) (by have:=hm0 (by omega);omega) (by unfold Jap;omega) (by omega);obtain⟨A3,c3,hv,rz⟩:=aS.of_own fy;rw[hv] at fy;rw[show L.length - m+m=L.length by omega] at hr hv fy;rw[hv] at hr;rw[←fa] at fy;exact⟨A3,c3,cD,hr,lj.of_own fy,hb⟩
     obtain⟨A3,c3,w3,bL,rz,bw⟩:=HG
     have HG:Hid (∃A c,Ο A3 L.length c3=γ A L.length c∧lj w3 (A,L.length,c,L.drop m++L.take m)∧σ w.heap.size w w3):=by
      have e1:=HB.out;have e2:=hE.out;have h1:σ w.heap.size w w':=(e1.trans (e2.mono e1.size)).trans (aC.mono (Λ e1.size e2.size));exact⟨A3,c3,rfl,rz,h1.trans (bw.mono h1.size)⟩
     refine⟨_,w3,bV rfl rfl rfl bL,Kept.of_below bw,?_⟩
     clear bL rz bw aC;simp only[ξ,ak,aj,ah];refine aq 11 ?_;refine aG (by kernel_rfl) ?_ _;intro w' aC;go_wp2;go_ret;have hG:=HG.out;obtain⟨A3,c3,hv,rz,bw⟩:=hG;have hlen:(aJ L).length=L.length:=by rw[HT.out];simp;omega
     refine⟨A3,c3,?_,?_,?_⟩
     ·rw[GL.out,hlen];exact congrArg _ hv
     ·rw[GL.out,hlen,HT.out];exact rz.bl aC
     ·exact bw.trans (aC.mono bw.size)
theorem Kn (A:Option Κ) (n c:Nat) (L:List D) (w:ο) (g:Nat) (t:Υ) (hg:Whole w g t [γ A n c]) (hr:aS w w.heap.size 3 A n c (aA L)) (hn:n≤1000000):
 Ζ η 153 #[γ (ζ ⟨g,0,ε⟩) 1 1] w (sL w (aJ L)):=by
 have h:=sY (ζ ⟨g,0,ε⟩) 1 1 [L] w (R4 hg hr) (by omega) (by have:=hr.dlen;simp;omega);simpa using h
theorem yJ (A A2:Option Κ) (n c n2 c2 g:Nat) (t:Υ) (L L2:List D) (w:ο) (hg:Whole w g t [γ A n c,γ A2 n2 c2]) (hr:aS w w.heap.size 3 A n c (aA L)) (tP:aS w w.heap.size 3 A2 n2 c2 (aA L2)) (hn:n+n2≤999999):
 Ζ η 153 #[γ (ζ ⟨g,0,ε⟩) 2 2] w (sL w (aJ (L++L2))):=by
 have h:=sY (ζ ⟨g,0,ε⟩) 2 2 [L,L2] w (QX hg hr tP) (by omega) (by have:=hr.dlen;have:=tP.dlen;simp;omega);simpa using h
theorem zf (A:Option Κ) (n c:Nat) (L:List D) (d:D) (w:ο) (h:aS w w.heap.size 3 A n c (aA L)) (hn:n≤999000):
 Ζ η 123 #[γ A n c,φ #[J d.1,J d.2.1,J d.2.2]] w (sL w (aJ (ft L d))):=by
 have HI:=qh (fun W h=>qx A n c L d W h (by omega));have HT:=qh (fun W g t hg hr=>Kn A n c L W g t hg hr (by omega));have H:=qh h;have hl:=h.dlen;have jn:σ w.heap.size w (w.alloc (δ #[J d.1,J d.2.1,J d.2.2] 32)):=ax _ _;have B0:=qh jn;clear h jn
 by_cases hd:d∈L
 ·obtain⟨i1,i2⟩:=gO hd;rw[i1] at HI;have e1:ft L d=L.take (L.idxOf d)++L.drop (L.idxOf d+1):=by rw[ft,if_pos hd]
  obtain⟨k,gk⟩:=az (L.idxOf d);rw[gk] at HI e1 i2;have hk:k+1≤n:=by omega
  have E1:=qh e1;obtain⟨k1,Td⟩:=az (k+1);have qL:IntKind.i64.wrap ((k:Int)+1)=(k1:Int):=(IntWalk.i64_in _ (by omega)).trans (by omega);rw[Td] at hk E1;obtain⟨X1,EN,kI⟩:=VJ A n c k (by omega) H.out.le;obtain⟨X2,Rf,qt⟩:=X7 A n c k1 hk H.out.le;have Yg:=qh (fun W B=>kI W B L);have Yl:=qh (fun W B=>qt W B L);have PS:k≤n:=by omega
  have GK1:=qh Td;clear hl e1 i1 i2 gk hd Td kI qt;go_enter Tryz.func123,Tryz.ntmps123
  go_upto_region 4 with (first
   |(go_at_call 144;refine(HI.out _ (by exact H.out.up B0.out B0.out.size)).mono ?_;rintro e w2 ⟨rfl,ar⟩;have B2:=qh (aK ar);clear ar))
  have hE:Hid (σ w.heap.size w w2.drew):=B2.out.drew;refine aw (aT) (by kernel_rfl) ?_;refine aq 0 ?_;refine aq 1 ?_;refine aq 2 ?_;refine aq 3 ?_;refine aq 4 ?_;refine aq 5 ?_;refine aq 6 ?_;refine N7 7 ?_;intro w' aC;apply JaG;apply JaG;apply Jax
  ·go_simp;exact⟨rfl,rfl⟩
  apply Jax
  ·exact Kept.of_below (ax _ _)
  obtain⟨g2,pK⟩:=az w'.heap.size;obtain⟨W2,eO⟩:=az (w'.alloc (δ #[γ X1 k c,γ X2 (n - k1) (c - k1)] 57));have Z4:Hid (Whole W2 g2 57 [γ X1 k c,γ X2 (n - k1) (c - k1)]):=(by rw[←eO,←pK];exact Whole.new_ w' _ [γ X1 k c,γ X2 (n - k1) (c - k1)]);have Mq:Hid (σ w.heap.size w W2):=(by rw[←eO];exact(hE.out.trans (aC.mono hE.out.size)).alloc (Λ hE.out.size aC.size) _);rw[eO,pK];clear eO pK aC;simp only[ξ,ak,aj,ah];refine rU 8 ?_;intro w' aC;have Tj:=Mq.out.trans (aC.mono Mq.out.size);have r:=H.out.up Tj Tj.size
  refine(yJ X1 X2 k c (n - k1) (c - k1) g2 _ (L.take k) (L.drop k1) w' (Z4.out.below aC) (Yg.out _ _ r) (Yl.out _ _ r) (by have:=GK1.out;omega)).mono ?_
  rintro e w5 ⟨A3,c3,rfl,rz,bw⟩;have HG:Hid (∃A3' c3',Ending.returned (Ο A3 (aJ (L.take k++L.drop k1)).length c3)=.returned (.slice A3' (aJ (L.take k++L.drop k1)).length c3')∧lj w5 (A3',(aJ (L.take k++L.drop k1)).length,c3',(aJ (L.take k++L.drop k1)))∧σ w.heap.size w w5):=⟨A3,c3,rfl,rz,Tj.trans (bw.mono Tj.size)⟩
  refine⟨_,rfl,Kept.of_below bw,?_⟩
  clear rz bw aC Tj r;simp only[ξ,ak,aj,ah];refine aq 9 ?_;refine aG (by kernel_rfl) ?_ _;intro w' aC;go_wp2;go_ret;obtain⟨A3,c3,hv,rz,bw⟩:=HG.out;rw[E1.out];exact⟨A3,c3,hv,rz.bl aC,bw.trans (aC.mono bw.size)⟩
 ·have e1:ft L d=L:=by rw[ft,if_neg hd]
  rw[jE hd] at HI;have E1:=qh e1;clear hl e1 hd;go_enter Tryz.func123,Tryz.ntmps123
  go_wp2_with (first
   |(go_at_call 144;refine(HI.out _ (by exact H.out.up B0.out B0.out.size)).mono ?_;rintro e w2 ⟨rfl,ar⟩;have B2:=qh (aK ar);clear ar)
   |(go_at_call 153;refine(HT.out _ _ 57 (by exact Whole.new_ _ _ _) (by exact(H.out.up B2.out B2.out.size).up (ax _ _) (by simp))).mono ?_;rintro e w3 ⟨A2,c2,rfl,rz,bw⟩))
  go_ret;rw[E1.out];exact⟨A2,c2,rfl,rz,(B2.out.alloc B2.out.size _).trans (bw.mono (by have:=B2.out.size;simp;omega))⟩
theorem fN (A:Option Κ) (n c:Nat) (Vs:List VC) (B:Option Κ) (m k:Nat) (Es:List EC) (x1 x2:Int) (w:ο) (h:aS w w.heap.size 5 A n c (ao vC Vs)) (hn:n≤140737488355328):
 Ζ η 27 #[φ #[γ A n c,γ B m k],φ #[J x1,J x2]] w fun e w'=>e=.returned (Ξ #[φ (vC (aU Vs (x1,x2)).1).toArray,Β (aU Vs (x1,x2)).2])∧σ w.heap.size w w':=by
 have H:=qh h;have Hl:=qh (h.rlen aN (by decide));obtain⟨⟨r,ok⟩,gr⟩:∃z,aU Vs (x1,x2)=z:=⟨_,rfl⟩
 rw[gr];have HG:=qh gr;clear h gr;go_enter Tryz.func27,Tryz.ntmps27;go_wp2;obtain⟨W0,b0,b1,b2,bJ,bS,cJ,dA,aR,aQ,bj,bn,uo,zl,j4,zY,fD,Gb2,a8,kY,mJ,ni⟩:=jm w 25 [γ A n c,γ B m k] 30 [J x1,J x2] 59 [J 0,J 0,γ ε 0 0,μ {data:=#[]},J 0];rw[bJ,dA,cJ,bS];clear bJ bS cJ dA;go_loopw [6] (fun si wr=>∃j:Nat,j≤n∧si=J j∧Hid (σ w.heap.size w wr)∧Hid (Whole wr b0 25 [γ A n c,γ B m k])∧Hid (Whole wr b1 30 [J x1,J x2])∧Hid (Whole wr b2 59 [J 0,J 0,γ ε 0 0,μ {data:=#[]},J 0])∧Hid (aU (Vs.drop j) (x1,x2)=(r,ok))) (fun si _=>n - (intOf si).toNat)
 case atStart=>exact⟨0,by omega,rfl,bn,aR,aQ,bj,HG⟩
 case round=>
  clear bn aR aQ bj HG;obtain⟨j,hj,rfl,HB,aR,aQ,bj,HG⟩:=hrel;obtain⟨wo,dB⟩:=az wr;rw[dB] at HB aR aQ bj ⊢;clear dB
  by_cases nF:j<n
  ·obtain⟨x,hx⟩:∃x,Vs[j]? =ζ x:=⟨_,θ (by have:=Hl.out;omega)⟩
   have qO:Vs.drop j=x::Vs.drop (j+1):=by
    rw[Χ (ν.1 hx).1,(ν.1 hx).2]
   have lF:=HG.out;rw[qO] at lF;have fK:=qh lF;obtain⟨bb,off,rfl,bZ,bD⟩:=H.out.place aN (by decide) (by omega);have SN:Hid (bb<wo.heap.size):=qh (JaK bZ HB.out.size);have cR:=HB.out;have q0:=bD j _ hx 0 _ rfl;have q1:=bD j _ hx 1 _ rfl;have q2:=bD j _ hx 2 _ rfl;have q3:=bD j _ hx 3 _ rfl;have q4:=bD j _ hx 4 _ rfl;simp only[Ν,Jac] at q0 q1 q2 q3 q4;have l0:=(cR.cell (p:=⟨bb,off+j*5,ε⟩) bZ).trans q0;have l1:=(cR.cell (p:=⟨bb,off+j*5+1,ε⟩) bZ).trans q1;have l2:=(cR.cell (p:=⟨bb,off+j*5+2,ε⟩) bZ).trans q2;have l3:=(cR.cell (p:=⟨bb,off+j*5+3,ε⟩) bZ).trans q3;have l4:=(cR.cell (p:=⟨bb,off+j*5+4,ε⟩) bZ).trans q4;clear cR q0 q1 q2 q3 q4;obtain⟨⟨i1,i2⟩,⟨rA,rn,rc,rL⟩,lb,at_⟩:=x;have HE:=qh (Jax l0 (Jax l1 (Jax l2 (Jax l3 l4))));have cb:=aR.out.cell (i:=0) rfl;clear hx qO lF bD bZ HG;have Rv:=l0;go_upto_region 4 with fail
   clear cb Rv;have Tx:=dX (i:=0) aR.out rfl;have WB:=dX (i:=0) aQ.out rfl;have UO:=dX (i:=1) aQ.out rfl;have YD:=dE l0;have ZU:=dE l1;clear l0 l1 l2 l3 l4;have heq:=fun W=>Ex i1 i2 x1 x2 W
   obtain⟨bq,Eb⟩:=az ((i1==x1 && i2==x2));rw[Eb] at heq;have P0:=qh Eb;clear Eb;refine aw (aT) (by kernel_rfl) ?_;refine aq 0 ?_;refine aq 1 ?_;refine aq 2 ?_;refine aq 3 ?_;refine aq 4 ?_;refine aq 5 ?_;refine aq 6 ?_;refine aq 7 ?_;refine aG (by kernel_rfl) ?_ _;intro W3 iu;have ru:=qh (aR.out.dr.bl iu);have iA:=qh (aQ.out.dr.bl iu);have eR:=qh (bj.out.dr.bl iu);have sC:Hid (σ wo.heap.size wo W3):=qh (af (ba (Θ _ _)) iu);have cY:=qh (af HB.out sC.out);clear iu Tx WB UO YD ZU HB aR aQ bj heq;cases bq with
   |true=>
    have hq:=P0.out;rw[Jar,beq_iff_eq,beq_iff_eq] at hq;have hg:=fK.out;rw[aU,rS _ _ _ _ _ (by rw[hq.1,hq.2])] at hg;injection hg with hg1 lF
    subst hg1 lF;obtain⟨l0,l1,l2,l3,l4⟩:=HE.out;have Iw:=sC.out;have BQ:=SN.out;have cb:=ru.out.cell (i:=0) rfl;have f0:=eR.out.free 0;have k0:=eR.out.cell (i:=0) rfl;have y0:=(Iw.cell (p:=⟨bb,off+j*5,ε⟩) BQ).trans l0;have f1:=eR.out.free 1;have k1:=eR.out.cell (i:=1) rfl;have y1:=(Iw.cell (p:=⟨bb,off+j*5+1,ε⟩) BQ).trans l1;have f2:=eR.out.free 2;have k2:=eR.out.cell (i:=2) rfl;have y2:=(Iw.cell (p:=⟨bb,off+j*5+2,ε⟩) BQ).trans l2;have f3:=eR.out.free 3;have k3:=eR.out.cell (i:=3) rfl;have y3:=(Iw.cell (p:=⟨bb,off+j*5+3,ε⟩) BQ).trans l3;have f4:=eR.out.free 4;have k4:=eR.out.cell (i:=4) rfl;have y4:=(Iw.cell (p:=⟨bb,off+j*5+4,ε⟩) BQ).trans l4;have HY:=qh (((((eR.out.set_ 0 (J i1)).set_ 1 (J i2)).set_ 2 (γ rA rn rc)).set_ 3 (μ lb)).set_ 4 (J at_));have tL:=qh (((((cY.out.setCell (p:=⟨b2,0,ε⟩) a8.out (J i1)).setCell (p:=⟨b2,1,ε⟩) a8.out (J i2)).setCell (p:=⟨b2,2,ε⟩) a8.out (γ rA rn rc)).setCell (p:=⟨b2,3,ε⟩) a8.out (μ lb)).setCell (p:=⟨b2,4,ε⟩) a8.out (J at_));clear eR fK cY hq l0 l1 l2 l3 l4 HE Iw sC;go_wp2;exact aE rfl b2 rfl rfl HY.out Tryz.underlying59 rfl (by kernel_rfl) rfl ⟨rfl,tL.out⟩
   |false=>
    have hg:=fK.out
    rw[aU,wb _ _ _ _ _ (fun e=>by
     have e1:i1=x1:=congrArg Prod.fst e;have e2:i2=x2:=congrArg Prod.snd e
     have:=P0.out
     rw[e1,e2] at this;simp at this)] at hg
    have Kb:=qh hg;clear hg fK HE sC;go_wp2;go_roundw
    case rel=>exact⟨j+1,by omega,by go_num,cY,ru,iA,eR,Kb⟩
    case measure=>simp[intOf];omega
  ·obtain rfl:n=j:=by omega
   have hg:=HG.out;rw[Jav (by have:=Hl.out;omega)] at hg;replace hg:(zV,ρ)=(r,ok):=hg;injection hg with hg1 lF
   subst hg1 lF;have cb:=aR.out.cell (i:=0) rfl;have f0:=bj.out.free 0;have k0:=bj.out.cell (i:=0) rfl;have f1:=bj.out.free 1;have k1:=bj.out.cell (i:=1) rfl;have f2:=bj.out.free 2;have k2:=bj.out.cell (i:=2) rfl;have f3:=bj.out.free 3;have k3:=bj.out.cell (i:=3) rfl;have f4:=bj.out.free 4;have k4:=bj.out.cell (i:=4) rfl;have HY:=qh (((((bj.out.set_ 0 (J 0)).set_ 1 (J 0)).set_ 2 (γ ε 0 0)).set_ 3 (μ {data:=#[]})).set_ 4 (J 0));have tL:=qh (((((HB.out.setCell (p:=⟨b2,0,ε⟩) a8.out (J 0)).setCell (p:=⟨b2,1,ε⟩) a8.out (J 0)).setCell (p:=⟨b2,2,ε⟩) a8.out (γ ε 0 0)).setCell (p:=⟨b2,3,ε⟩) a8.out (μ {data:=#[]})).setCell (p:=⟨b2,4,ε⟩) a8.out (J 0));clear HG bj;go_wp2;exact aE rfl b2 rfl rfl HY.out Tryz.underlying59 rfl (by kernel_rfl) rfl ⟨rfl,tL.out⟩
theorem yG (A:Option Κ) (n c:Nat) (Vs:List VC) (B:Option Κ) (m k:Nat) (Es:List EC) (x1 x2:Int) (w:ο) (h:aS w w.heap.size 4 B m k (ao eC Es)) (hn:m≤140737488355328):
 Ζ η 30 #[φ #[γ A n c,γ B m k],φ #[J x1,J x2]] w fun e w'=>e=.returned (Ξ #[φ (eC (iw Es (x1,x2)).1).toArray,Β (iw Es (x1,x2)).2])∧σ w.heap.size w w':=by
 have H:=qh h;have Hl:=qh (h.rlen cM (by decide));obtain⟨⟨r,ok⟩,gr⟩:∃z,iw Es (x1,x2)=z:=⟨_,rfl⟩
 rw[gr];have HG:=qh gr;clear h gr;go_enter Tryz.func30,Tryz.ntmps30;go_wp2;obtain⟨W0,b0,b1,b2,bJ,bS,cJ,dA,aR,aQ,bj,bn,uo,zl,j4,zY,fD,Gb2,a8,kY,mJ,ni⟩:=jm w 25 [γ A n c,γ B m k] 30 [J x1,J x2] 67 [J 0,J 0,μ {data:=#[]},J 0];rw[bJ,dA,cJ,bS];clear bJ bS cJ dA;go_loopw [6] (fun si wr=>∃j:Nat,j≤m∧si=J j∧Hid (σ w.heap.size w wr)∧Hid (Whole wr b0 25 [γ A n c,γ B m k])∧Hid (Whole wr b1 30 [J x1,J x2])∧Hid (Whole wr b2 67 [J 0,J 0,μ {data:=#[]},J 0])∧Hid (iw (Es.drop j) (x1,x2)=(r,ok))) (fun si _=>m - (intOf si).toNat)
 case atStart=>exact⟨0,by omega,rfl,bn,aR,aQ,bj,HG⟩
 case round=>
  clear bn aR aQ bj HG;obtain⟨j,hj,rfl,HB,aR,aQ,bj,HG⟩:=hrel;obtain⟨wo,dB⟩:=az wr;rw[dB] at HB aR aQ bj ⊢;clear dB
  by_cases nF:j<m
  ·obtain⟨x,hx⟩:∃x,Es[j]? =ζ x:=⟨_,θ (by have:=Hl.out;omega)⟩
   have qO:Es.drop j=x::Es.drop (j+1):=by
    rw[Χ (ν.1 hx).1,(ν.1 hx).2]
   have lF:=HG.out;rw[qO] at lF;have fK:=qh lF;obtain⟨bb,off,rfl,bZ,bD⟩:=H.out.place cM (by decide) (by omega);have SN:Hid (bb<wo.heap.size):=qh (JaK bZ HB.out.size);have cR:=HB.out;have q0:=bD j _ hx 0 _ rfl;have q1:=bD j _ hx 1 _ rfl;have q2:=bD j _ hx 2 _ rfl;have q3:=bD j _ hx 3 _ rfl;simp only[Ν,Jac] at q0 q1 q2 q3;have l0:=(cR.cell (p:=⟨bb,off+j*4,ε⟩) bZ).trans q0;have l1:=(cR.cell (p:=⟨bb,off+j*4+1,ε⟩) bZ).trans q1;have l2:=(cR.cell (p:=⟨bb,off+j*4+2,ε⟩) bZ).trans q2;have l3:=(cR.cell (p:=⟨bb,off+j*4+3,ε⟩) bZ).trans q3;clear cR q0 q1 q2 q3;obtain⟨⟨i1,i2⟩,lb,at_⟩:=x;have HE:=qh (Jax l0 (Jax l1 (Jax l2 l3)));have cb:=aR.out.cell (i:=1) rfl;clear hx qO lF bD bZ HG;have Rv:=l0;go_upto_region 4 with fail
   clear cb Rv;have Tx:=dX (i:=1) aR.out rfl;have WB:=dX (i:=0) aQ.out rfl;have UO:=dX (i:=1) aQ.out rfl;have YD:=dE l0;have ZU:=dE l1;clear l0 l1 l2 l3;have heq:=fun W=>Ex i1 i2 x1 x2 W
   obtain⟨bq,Eb⟩:=az ((i1==x1 && i2==x2));rw[Eb] at heq;have P0:=qh Eb;clear Eb;refine aw (aT) (by kernel_rfl) ?_;refine aq 0 ?_;refine aq 1 ?_;refine aq 2 ?_;refine aq 3 ?_;refine aq 4 ?_;refine aq 5 ?_;refine aq 6 ?_;refine aq 7 ?_;refine aG (by kernel_rfl) ?_ _;intro W3 iu;have ru:=qh (aR.out.dr.bl iu);have iA:=qh (aQ.out.dr.bl iu);have eR:=qh (bj.out.dr.bl iu);have sC:Hid (σ wo.heap.size wo W3):=qh (af (ba (Θ _ _)) iu);have cY:=qh (af HB.out sC.out);clear iu Tx WB UO YD ZU HB aR aQ bj heq;cases bq with
   |true=>
    have hq:=P0.out;rw[Jar,beq_iff_eq,beq_iff_eq] at hq;have hg:=fK.out;rw[iw,rS _ _ _ _ _ (by rw[hq.1,hq.2])] at hg;injection hg with hg1 lF
    subst hg1 lF;obtain⟨l0,l1,l2,l3⟩:=HE.out;have Iw:=sC.out;have BQ:=SN.out;have cb:=ru.out.cell (i:=1) rfl;have f0:=eR.out.free 0;have k0:=eR.out.cell (i:=0) rfl;have y0:=(Iw.cell (p:=⟨bb,off+j*4,ε⟩) BQ).trans l0;have f1:=eR.out.free 1;have k1:=eR.out.cell (i:=1) rfl;have y1:=(Iw.cell (p:=⟨bb,off+j*4+1,ε⟩) BQ).trans l1;have f2:=eR.out.free 2;have k2:=eR.out.cell (i:=2) rfl;have y2:=(Iw.cell (p:=⟨bb,off+j*4+2,ε⟩) BQ).trans l2;have f3:=eR.out.free 3;have k3:=eR.out.cell (i:=3) rfl;have y3:=(Iw.cell (p:=⟨bb,off+j*4+3,ε⟩) BQ).trans l3;have HY:=qh ((((eR.out.set_ 0 (J i1)).set_ 1 (J i2)).set_ 2 (μ lb)).set_ 3 (J at_));have tL:=qh ((((cY.out.setCell (p:=⟨b2,0,ε⟩) a8.out (J i1)).setCell (p:=⟨b2,1,ε⟩) a8.out (J i2)).setCell (p:=⟨b2,2,ε⟩) a8.out (μ lb)).setCell (p:=⟨b2,3,ε⟩) a8.out (J at_));clear eR fK cY hq l0 l1 l2 l3 HE Iw sC;go_wp2;exact aE rfl b2 rfl rfl HY.out Tryz.underlying67 rfl (by kernel_rfl) rfl ⟨rfl,tL.out⟩
   |false=>
    have hg:=fK.out
    rw[iw,wb _ _ _ _ _ (fun e=>by
     have e1:i1=x1:=congrArg Prod.fst e;have e2:i2=x2:=congrArg Prod.snd e
     have:=P0.out
     rw[e1,e2] at this;simp at this)] at hg
    have Kb:=qh hg;clear hg fK HE sC;go_wp2;go_roundw
    case rel=>exact⟨j+1,by omega,by go_num,cY,ru,iA,eR,Kb⟩
    case measure=>simp[intOf];omega
  ·obtain rfl:m=j:=by omega
   have hg:=HG.out;rw[Jav (by have:=Hl.out;omega)] at hg;replace hg:(zE,ρ)=(r,ok):=hg;injection hg with hg1 lF
   subst hg1 lF;have cb:=aR.out.cell (i:=1) rfl;have f0:=bj.out.free 0;have k0:=bj.out.cell (i:=0) rfl;have f1:=bj.out.free 1;have k1:=bj.out.cell (i:=1) rfl;have f2:=bj.out.free 2;have k2:=bj.out.cell (i:=2) rfl;have f3:=bj.out.free 3;have k3:=bj.out.cell (i:=3) rfl;have HY:=qh ((((bj.out.set_ 0 (J 0)).set_ 1 (J 0)).set_ 2 (μ {data:=#[]})).set_ 3 (J 0));have tL:=qh ((((HB.out.setCell (p:=⟨b2,0,ε⟩) a8.out (J 0)).setCell (p:=⟨b2,1,ε⟩) a8.out (J 0)).setCell (p:=⟨b2,2,ε⟩) a8.out (μ {data:=#[]})).setCell (p:=⟨b2,3,ε⟩) a8.out (J 0));clear HG bj;go_wp2;exact aE rfl b2 rfl rfl HY.out Tryz.underlying67 rfl (by kernel_rfl) rfl ⟨rfl,tL.out⟩
theorem nv (A:Option Κ) (n c:Nat) (Vs:List VC) (B:Option Κ) (m k:Nat) (Es:List EC) (x1 x2 x3:Int) (w:ο) (h:aO w A n c Vs B m k Es) (hn:n≤140737488355328) (hr:∀y∈Vs,y.2.1.2.1≤5864062014634):
 Ζ η 29 #[φ #[γ A n c,γ B m k],φ #[J x1,J x2,J x3]] w fun e w'=>
  e=.returned (Ξ #[φ #[J (jl Vs (x1,x2,x3)).1.1,J (jl Vs (x1,x2,x3)).1.2],Β (jl Vs (x1,x2,x3)).2])∧σ w.heap.size w w':=by
 have H:=qh h.v;have Dc:=qh h.r;have Sm:=qh hr;have Hl:=qh (h.v.rlen aN (by decide));obtain⟨⟨⟨r1,r2⟩,r3⟩,gr⟩:∃z,jl Vs (x1,x2,x3)=z:=⟨_,rfl⟩
 rw[gr];have HG:=qh gr;clear h hr gr;go_enter Tryz.func29,Tryz.ntmps29;go_wp2;obtain⟨W0,b0,b1,b2,bJ,bS,cJ,dA,aR,aQ,bj,bn,uo,zl,j4,zY,fD,Gb2,a8,kY,mJ,ni⟩:=jm w 25 [γ A n c,γ B m k] 32 [J x1,J x2,J x3] 30 [J 0,J 0];rw[bJ,dA,cJ,bS];clear bJ bS cJ dA;go_loopw [6] (fun si wr=>∃j:Nat,j≤n∧si=J j∧Hid (σ w.heap.size w wr)∧Hid (Whole wr b0 25 [γ A n c,γ B m k])∧Hid (Whole wr b1 32 [J x1,J x2,J x3])∧Hid (Whole wr b2 30 [J 0,J 0])∧Hid (jl (Vs.drop j) (x1,x2,x3)=((r1,r2),r3))) (fun si _=>n - (intOf si).toNat)
 case atStart=>exact⟨0,by omega,rfl,bn,aR,aQ,bj,HG⟩
 case round=>
  clear bn aR aQ bj HG;obtain⟨j,hj,rfl,HB,aR,aQ,bj,HG⟩:=hrel;obtain⟨wo,dB⟩:=az wr;rw[dB] at HB aR aQ bj ⊢;clear dB
  by_cases nF:j<n
  ·obtain⟨x,hx⟩:∃x,Vs[j]? =ζ x:=⟨_,θ (by have:=Hl.out;omega)⟩
   have qO:Vs.drop j=x::Vs.drop (j+1):=by
    rw[Χ (ν.1 hx).1,(ν.1 hx).2]
   have lF:=HG.out;rw[qO] at lF;have fK:=qh lF;have eV:=Dc.out x (ω hx);have nP:=Sm.out x (ω hx);obtain⟨bb,off,rfl,bZ,bD⟩:=H.out.place aN (by decide) (by omega);have SN:Hid (bb<wo.heap.size):=qh (JaK bZ HB.out.size);have cR:=HB.out;have q0:=bD j _ hx 0 _ rfl;have q1:=bD j _ hx 1 _ rfl;have q2:=bD j _ hx 2 _ rfl;have q3:=bD j _ hx 3 _ rfl;have q4:=bD j _ hx 4 _ rfl;simp only[Ν,Jac] at q0 q1 q2 q3 q4;have l0:=(cR.cell (p:=⟨bb,off+j*5,ε⟩) bZ).trans q0;have l1:=(cR.cell (p:=⟨bb,off+j*5+1,ε⟩) bZ).trans q1;have l2:=(cR.cell (p:=⟨bb,off+j*5+2,ε⟩) bZ).trans q2;have l3:=(cR.cell (p:=⟨bb,off+j*5+3,ε⟩) bZ).trans q3;have l4:=(cR.cell (p:=⟨bb,off+j*5+4,ε⟩) bZ).trans q4;clear cR q0 q1 q2 q3 q4;obtain⟨⟨i1,i2⟩,⟨rA,rn,rc,rL⟩,lb,at_⟩:=x;have hR:aS w w.heap.size 3 rA rn rc (aA rL):=eV.2;replace nP:rn≤5864062014634:=nP
   have hI:∀w',Kept aT wo.drew w'→Ζ η 33 #[γ rA rn rc,φ #[J x1,J x2,J x3]] w' fun e cD=>e=.returned (J (fI rL (x1,x2,x3)))∧σ w'.heap.size w' cD:=
    fun w' hk=>gJ rA rn rc rL (x1,x2,x3) w' ((hR.bl (ba HB.out)).bl (hk.below (Δ _) (fun _ _ h=>h))) (by omega)
   have HI:=qh hI;have HE:=qh (Jax l0 l1);have cb:=aR.out.cell (i:=0) rfl;clear hx qO lF bD bZ HG eV hR hI l0 l1 l3 l4;obtain⟨ix,Sb⟩:=az (fI rL (x1,x2,x3));rw[Sb] at HI;have TJ:=qh Sb;clear Sb;go_upto_region 4 with fail
   clear cb;have Tx:=dX (i:=0) aR.out rfl;have WB:=dX (i:=0) aQ.out rfl;have UO:=dX (i:=1) aQ.out rfl;have ldz:=dX (i:=2) aQ.out rfl;have ldr:=dE l2;clear l2;refine aw (aT) (by kernel_rfl) ?_;refine aq 0 ?_;refine aq 1 ?_;refine aq 2 ?_;refine aq 3 ?_;refine aq 4 ?_;refine aq 5 ?_;refine aq 6 ?_;refine bN 7 (hy:=by apply cz;rfl;rotate_left;intro w' aC;exact HI.out w' aC;intro w';go_simp) (h:=?_);refine aq 8 ?_;refine aG (by kernel_rfl) ?_ _;intro W3 iu;have ru:=qh (aR.out.dr.bl iu);have iA:=qh (aQ.out.dr.bl iu);have eR:=qh (bj.out.dr.bl iu);have sC:Hid (σ wo.heap.size wo W3):=qh (af (ba (Θ _ _)) iu);have cY:=qh (af HB.out sC.out);clear iu Tx WB UO ldz ldr HB aR aQ bj HI
   by_cases ij:(x1,x2,x3)∈rL
   ·have e1:fI rL (x1,x2,x3)=(rL.idxOf (x1,x2,x3):Int):=by rw[fI,if_pos ij]
    have h0:0≤ix:=by rw[←TJ.out,e1];omega
    have hG:=fK.out;rw[yg _ _ _ ij] at hG;simp only[Jba] at hG;obtain⟨⟨rfl,rfl⟩,rfl⟩:=hG;obtain⟨l0,l1⟩:=HE.out;have y0:=(sC.out.cell (p:=⟨bb,off+j*5,ε⟩) SN.out).trans l0;have y1:=(sC.out.cell (p:=⟨bb,off+j*5+1,ε⟩) SN.out).trans l1;have cb:=ru.out.cell (i:=0) rfl;have f0:=eR.out.free 0;have f1:=eR.out.free 1;have k0:=eR.out.cell (i:=0) rfl;have k1:=eR.out.cell (i:=1) rfl;have HY:=qh ((eR.out.set_ 0 (J i1)).set_ 1 (J i2));have tL:=qh ((cY.out.setCell (p:=⟨b2,0,ε⟩) a8.out (J i1)).setCell (p:=⟨b2,1,ε⟩) a8.out (J i2));clear eR fK cY HE sC l0 l1;go_wp2;exact aE rfl b2 rfl rfl HY.out Tryz.underlying30 rfl (by kernel_rfl) rfl ⟨rfl,tL.out⟩
   ·have h0:¬0≤ix:=by rw[←TJ.out,show fI rL (x1,x2,x3)= -1 by rw[fI,if_neg ij]];omega
    have hG:=fK.out;rw[Dh _ _ _ ij] at hG;have Kb:=qh hG;clear hG fK HE sC;go_wp2;go_roundw
    case rel=>exact⟨j+1,by omega,by go_num,cY,ru,iA,eR,Kb⟩
    case measure=>simp[intOf];omega
  ·obtain rfl:n=j:=by omega
   have hG:=HG.out;rw[Jav (by have:=Hl.out;omega)] at hG;replace hG:(((0:Int),(0:Int)),ρ)=((r1,r2),r3):=hG;simp only[Jba] at hG;obtain⟨⟨rfl,rfl⟩,rfl⟩:=hG;have cb:=aR.out.cell (i:=0) rfl;have f0:=bj.out.free 0;have f1:=bj.out.free 1;have k0:=bj.out.cell (i:=0) rfl;have k1:=bj.out.cell (i:=1) rfl;have HY:=qh ((bj.out.set_ 0 (J 0)).set_ 1 (J 0));have tL:=qh ((HB.out.setCell (p:=⟨b2,0,ε⟩) a8.out (J 0)).setCell (p:=⟨b2,1,ε⟩) a8.out (J 0));clear HG bj;go_wp2;exact aE rfl b2 rfl rfl HY.out Tryz.underlying30 rfl (by kernel_rfl) rfl ⟨rfl,tL.out⟩
def Ku (d:D):Bool:=decide (0≤d.2.2) && decide (d.2.2≤1)
def Dl (Es:List EC) (d:D):Bool:=(iw Es (d.1,d.2.1)).2 && Ku d
theorem vM {d:D} {S:List D} (h:S.Nodup):(wI d S).Nodup:=by
 unfold wI;split
 ·exact h
 ·rename_i hn;exact List.nodup_cons.2 ⟨hn,h⟩
theorem AY {d x:D} {S:List D}:x∈wI d S↔x=d∨x∈S:=by
 unfold wI;split
 ·rename_i hm;constructor
  ·exact .inr
  ·rintro (rfl|h)
   ·exact hm
   ·exact h
 ·exact Η
theorem pB:∀(Es:List EC) (S:List D),S.Nodup→(FY Es S).Nodup
 |[],S,h=>h
 |e::r,S,h=>pB r _ (vM (vM h))
theorem pr:∀(Es:List EC) (S:List D) (x:D),x∈FY Es S↔x∈S∨∃e∈Es,x=(e.1.1,e.1.2,0)∨x=(e.1.1,e.1.2,1)
 |[],S,x=>by simp[FY]
 |e::r,S,x=>by
  rw[FY,pr r,AY,AY];simp only[Η,exists_eq_or_imp];constructor
  ·rintro ((h|h|h)|h)
   ·exact .inr (.inl (.inr h))
   ·exact .inr (.inl (.inl h))
   ·exact .inl h
   ·exact .inr (.inr h)
  ·rintro (h|(h|h)|h)
   ·exact .inl (.inr (.inr h))
   ·exact .inl (.inr (.inl h))
   ·exact .inl (.inl h)
   ·exact .inr h
theorem kF:∀(rs S:List D),we S rs=τ↔rs.Perm S
 |[],S=>by
  simp only[we,decide_eq_true_eq];constructor
  ·intro h;rw[List.eq_nil_of_length_eq_zero h]
  ·intro h;rw[←h.length_eq];rfl
 |x::r,S=>by
  rw[we]
  by_cases h:x∈S
  ·rw[if_pos h,kF r (S.erase x),List.cons_perm_iff_perm_erase];exact⟨fun k=>⟨h,k⟩,fun k=>k.2⟩
  ·rw[if_neg h];constructor
   ·intro k;cases k
   ·intro k;exact absurd (k.mem_iff.1 (List.mem_cons_self ..)) h
theorem Hq (Es:List EC) (x:Int × Int):(iw Es x).2=τ↔∃e∈Es,e.1=x:=by
 unfold iw BL;split
 ·rename_i v h;have h1:=List.find?_some h;have h2:=List.mem_of_find?_eq_some h;exact⟨fun _=>⟨v,h2,by simpa using h1⟩,fun _=>rfl⟩
 ·rename_i h;rw[List.find?_eq_none] at h;constructor
  ·intro k;cases k
  ·rintro⟨e,he,rfl⟩;exact absurd (by simp) (h e he)
theorem Cv (Es:List EC) (d:D):Dl Es d=τ↔d∈FY Es []:=by
 obtain⟨a,b,c⟩:=d;rw[pr,Dl,Jar,Hq];unfold Ku;simp only[Jar,decide_eq_true_eq,List.not_mem_nil,false_or,Jba];constructor
 ·rintro⟨⟨e,he,h1⟩,h2,h3⟩;have e1:e.1.1=a:=by rw[h1]
  have e2:e.1.2=b:=by rw[h1]
  refine⟨e,he,?_⟩
  rcases (by omega:c=0∨c=1) with h|h
  ·exact .inl ⟨e1.symm,e2.symm,h⟩
  ·exact .inr ⟨e1.symm,e2.symm,h⟩
 ·rintro⟨e,he,h|h⟩
  ·exact⟨⟨e,he,by rw[h.1,h.2.1]⟩,by omega,by omega⟩
  ·exact⟨⟨e,he,by rw[h.1,h.2.1]⟩,by omega,by omega⟩
end Go.Proofs.YtpdpbfmiahjiiaaGreat
