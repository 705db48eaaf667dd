/- Several texts in one. -/
import Derived.Test.YtpdpbfmiahjiiaaGreatPsAA
import Derived.Test.YtpdpbfmiahjiiaaGreatPsAB
import Derived.Test.YtpdpbfmiahjiiaaGreatPsAD
import Derived.Test.YtpdpbfmiahjiiaaGreatPsAG
import Derived.Test.YtpdpbfmiahjiiaaGreatPsAH
import Derived.Maps.AppendAt
import Derived.Below
import Derived.Carry
import Derived.Deep.Slices
import Derived.KernelRfl
import Derived.OpenShut
import Derived.ProofKit
import Derived.Test.YtpdpbfmiahjiiaaGreatProg
import Derived.WideKeyArgs
import Derived.SizedLaws
import Derived.LoopIn
import Derived.LoopNIn
import Derived.OwnWalkIn
import Derived.RangeFuncBound
import Derived.RangeFuncCalls
import Derived.RangeFuncLeaves
import Derived.RangeFuncNested
import Derived.Shelf.Abstract
import Derived.Shelf.RegionOpen
import Derived.TacticsInMore
import Derived.WalkKit
set_option linter.unusedSectionVars false
set_option linter.unusedSimpArgs false
set_option linter.unusedVariables false
set_option maxRecDepth 100000
set_option maxHeartbeats 16000000
namespace Go.Proofs.YtpdpbfmiahjiiaaGreat
open Go.RowKit
open _root_.Go.Value renaming slice→γ,slice→Ο
open _root_.Option renaming none→ε,some→ζ,some→Jae
open _root_.Go.Proofs.Tryz renaming prog→η
open _root_.List renaming getElem?_eq_getElem→θ,getD_eq_getElem?_getD→χ,mem_map→Α,length_append→Ε,mem_cons→Η,all_eq_true→Φ,getElem?_map→Ψ,range→Ω,mem_filter→JaC,length_cons→JaH,nodup_append→JaL
open _root_.Go renaming World→ο,Value→ψ,Addr→Κ,TypeId→Υ,Program→JaE,getD_set_ne→Jbq
open _root_.Bool renaming false→ρ,true→τ
open _root_.Nat renaming le_refl→Δ,zero_le→Jas,lt_or_ge→JaM
open _root_.Option.some renaming inj→Μ
open _root_.Array renaming getElem?_eq_some_iff→Jaa,getD→JaD,replicate→Jbe
open _root_.Go.Region renaming ready→Jaq,Mode→Jbj,noSelect→JbJ,free→JbP
open _root_.Int renaming toNat_natCast→Jbn
def jf (a b x:Int):Int:=if x=a∨x=b then min a b else x
theorem pR (L:List Int) (a b:Int) {i:Nat} (h:i<L.length):(cR L a b).getD i 0=jf a b (L.getD i 0):=by
 have h2:i<(cR L a b).length:=by rw[kN];exact h
 rw[χ,χ,θ h2,θ h];simp[cR,jf]
theorem Z4 (a b x:Int):jf a b x≤x:=by
 unfold jf;split
 ·rename_i h;rcases h with rfl|rfl<;>omega
 ·omega
theorem aa0 (a b x:Int):jf a b x=x∨jf a b x=a∨jf a b x=b:=by
 unfold jf;split
 ·by_cases h:a≤b
  ·exact .inr (.inl (by omega))
  ·exact .inr (.inr (by omega))
 ·exact .inl rfl
theorem aaA (a b x:Int):jf a b (jf a b x)=jf a b x:=by
 by_cases h:x=a∨x=b
 ·have e:jf a b x=min a b:=if_pos h;rw[e];exact if_pos (by omega)
 ·have e:jf a b x=x:=if_neg h;rw[e,e]
def nN (L:List Int):Prop:=∀i,i<L.length→0≤L.getD i 0∧L.getD i 0≤i∧L.getD (L.getD i 0).toNat 0=L.getD i 0
theorem tH (n i:Nat) (h:i<n):(lL n).getD i 0=(i:Int):=by
 rw[χ,lL,Ψ,List.getElem?_range h];rfl
theorem nN.up (n:Nat):nN (lL n):=fun i hi=>by
 have hl:(lL n).length=n:=by simp[lL]
 rw[hl] at hi;rw[tH n i hi,Jbn,tH n i hi];omega
theorem nN.join {L:List Int} (h:nN L) {p q:Nat} (hp:p<L.length) (hq:q<L.length):nN (cR L (L.getD p 0) (L.getD q 0)):=fun i hi=>by
 rw[kN] at hi;obtain⟨a0,a1,a2⟩:=h p hp;obtain⟨b0,b1,b2⟩:=h q hq;obtain⟨x0,x1,x2⟩:=h i hi;rw[pR L _ _ hi];obtain⟨a,ga⟩:=aB (L.getD p 0);obtain⟨b,gb⟩:=aB (L.getD q 0);obtain⟨x,gx⟩:=aB (L.getD i 0);rw[ga] at a0 a1 a2 ⊢;rw[gb] at b0 b1 b2 ⊢;rw[gx] at x0 x1 x2 ⊢;have hle:=Z4 a b x;have hj:=aa0 a b x;have hjj:=aaA a b x
 have key:0≤jf a b x∧L.getD (jf a b x).toNat 0=jf a b x:=by
  rcases hj with e|e|e
  ·rw[e];exact⟨x0,x2⟩
  ·rw[e];exact⟨a0,a2⟩
  ·rw[e];exact⟨b0,b2⟩
 refine⟨key.1,by omega,?_⟩
 rw[pR L _ _ (by omega),key.2,hjj]
theorem nN.step {n i:Nat} {s:St} (h:nN s.1) (hs:ql n s) (hi:i<n) (x:D):nN (jr i s x).1:=by
 unfold jr;split
 ·rename_i j hj;exact h.join (by rw[hs.len];exact hi) (by rw[hs.len];exact hs.lt _ _ hj)
 ·exact h
theorem IP {n i:Nat} (hi:i<n):∀(R:List D) (s:St),nN s.1→ql n s→nN (R.foldl (jr i) s).1∧ql n (R.foldl (jr i) s)
 |[],s,h,hs=>⟨h,hs⟩
 |x::R,s,h,hs=>IP hi R _ (h.step hs hi x) (hs.step hi x)
theorem H5 {n:Nat}:∀(Vs:List VC) (i:Nat) (s:St),i+Vs.length≤n→nN s.1→ql n s→nN (ta i Vs s).1∧ql n (ta i Vs s)
 |[],_,s,_,h,hs=>⟨h,hs⟩
 |v::r,i,s,hn,h,hs=>by
  rw[JaH] at hn;obtain⟨h1,h2⟩:=IP (n:=n) (i:=i) (by omega) v.2.1.2.2.2 s h hs;exact H5 r (i+1) _ (by omega) h1 h2
theorem IK (Vs:List VC):nN (dm Vs):=
 (H5 (n:=Vs.length) Vs 0 _ (by omega) (nN.up _) ⟨by simp[lL],fun y j h=>(by cases h)⟩).1
theorem BM:∀(Vs:List VC) (j k:Nat) (v:VC),(Vs.map (·.1)).Nodup→Vs[k]? =ζ v→fm j Vs v.1=((j+k:Nat):Int)
 |[],_,_,_,_,h=>by simp at h
 |u::r,j,0,v,_,h=>by
  obtain rfl:u=v:=by simpa using h
  rw[fm,if_pos rfl];simp
 |u::r,j,k+1,v,hn,h=>by
  have h1:r[k]? =ζ v:=by simpa using h
  rw[List.map_cons,List.nodup_cons] at hn;have bj:u.1≠v.1:=fun e=>hn.1 (e▸Α.2 ⟨v,List.mem_of_getElem? h1,rfl⟩)
  rw[fm,if_neg bj,BM r (j+1) k v hn.2 h1];congr 1;omega
def Co (n:Nat) (R:Nat→Nat→Prop) (f:Nat→Int):Prop:=∀i k,i<n→k<n→R i k→f i=f k
structure uN (n:Nat) (R:Nat→Nat→Prop) (L:List Int):Prop where
 len:L.length=n
 ok:nN L
 co:Co n R (fun i=>L.getD i 0)
 fin:∀f:Nat→Int,Co n R f→∀i k,i<n→k<n→L.getD i 0=L.getD k 0→f i=f k
theorem uN.of_iff {n:Nat} {R R':Nat→Nat→Prop} {L:List Int} (h:uN n R L) (hR:∀f,Co n R f↔Co n R' f):uN n R' L:=
 ⟨h.len,h.ok,(hR _).1 h.co,fun f hf=>h.fin f ((hR f).2 hf)⟩
theorem uN.up (n:Nat):uN n (fun _ _=>False) (lL n):=by
 refine⟨by simp[lL],nN.up n,fun i k _ _ h=>h.elim,fun f _ i k hi hk e=>?_⟩
 rw[tH n i hi,tH n k hk] at e;rw[Int.ofNat_inj.1 e]
theorem Ah {a b x:Int} (h:x=a∨x=b):jf a b x=min a b:=if_pos h
theorem GG {a b x:Int} (h:¬(x=a∨x=b)):jf a b x=x:=if_neg h
theorem LW (a b:Int):min a b=a∨min a b=b:=by omega
theorem uN.join {n p q:Nat} {R:Nat→Nat→Prop} {L:List Int} (h:uN n R L) (hp:p<n) (hq:q<n):
 uN n (fun i k=>R i k∨(i=p∧k=q)) (cR L (L.getD p 0) (L.getD q 0)):=by
 have hl:=h.len;have hg:∀i,i<n→(cR L (L.getD p 0) (L.getD q 0)).getD i 0=jf (L.getD p 0) (L.getD q 0) (L.getD i 0):=fun i hi=>pR L _ _ (by omega)
 refine⟨by rw[kN];exact hl,h.ok.join (by omega) (by omega),?_,?_⟩
 ·rintro i k hi hk (hr|⟨rfl,rfl⟩)
  ·show(cR L _ _).getD i 0=(cR L _ _).getD k 0
   rw[hg i hi,hg k hk];exact congrArg _ (h.co i k hi hk hr)
  ·show(cR L _ _).getD i 0=(cR L _ _).getD k 0
   rw[hg i hi,hg k hk,Ah (.inl rfl),Ah (.inr rfl)]
 ·intro f hf i k hi hk e;rw[hg i hi,hg k hk] at e;have oH:Co n R f:=fun a b ha hb hr=>hf a b ha hb (.inl hr)
  have hpq:f p=f q:=hf p q hp hq (.inr ⟨rfl,rfl⟩)
  have yes:∀j,j<n→(L.getD j 0=L.getD p 0∨L.getD j 0=L.getD q 0)→f j=f p:=by
   rintro j hj (e|e)
   ·exact h.fin f oH j p hj hp e
   ·exact(h.fin f oH j q hj hq e).trans hpq.symm
  by_cases h1:L.getD i 0=L.getD p 0∨L.getD i 0=L.getD q 0
  ·by_cases h2:L.getD k 0=L.getD p 0∨L.getD k 0=L.getD q 0
   ·rw[yes i hi h1,yes k hk h2]
   ·rw[Ah h1,GG h2] at e;exact absurd (by rw[←e];exact LW _ _) h2
  ·by_cases h2:L.getD k 0=L.getD p 0∨L.getD k 0=L.getD q 0
   ·rw[Ah h2,GG h1] at e;exact absurd (by rw[e];exact LW _ _) h1
   ·rw[GG h1,GG h2] at e;exact h.fin f oH i k hi hk e
theorem uN.le {n:Nat} {R:Nat→Nat→Prop} {L L':List Int} (h:uN n R L) (k:uN n R L') {i:Nat} (hi:i<n):L'.getD i 0≤L.getD i 0:=by
 obtain⟨h0,h1,h2⟩:=h.ok i (by rw[h.len];exact hi);obtain⟨x,hx⟩:∃x:Nat,L.getD i 0=(x:Int):=⟨(L.getD i 0).toNat,by omega⟩
 rw[hx] at h1 h2 ⊢;rw[Jbn] at h2;have Pv:x<n:=by omega
 have e:=h.fin _ k.co x i Pv hi (by rw[h2,hx]);obtain⟨k0,k1,k2⟩:=k.ok x (by rw[k.len];exact Pv);omega
theorem uN.uniq {n:Nat} {R:Nat→Nat→Prop} {L L':List Int} (h:uN n R L) (k:uN n R L'):L=L':=by
 refine List.ext_getElem (by rw[h.len,k.len]) fun i h1 h2=>?_
 have hi:i<n:=by rw[←h.len];exact h1
 have e1:=h.le k hi;have e2:=k.le h hi;have e:L.getD i 0=L'.getD i 0:=by omega
 rw[χ,χ,θ h1,θ h2] at e;exact e
def Pj (Vs:List VC) (i:Nat) (y:I2):Prop:=∃v,Vs[i]? =ζ v∧∃x∈v.2.1.2.2.2,y=(x.1,x.2.1)
def Sh (Vs:List VC) (i k:Nat):Prop:=∃y,Pj Vs i y∧Pj Vs k y
structure Met (n:Nat) (T:Nat→I2→Prop) (s:St):Prop where
 lab:uN n (fun i k=>∃y,T i y∧T k y) s.1
 yes:∀y j,s.2 y=ζ j→T j y
 no:∀y,s.2 y=ε→∀i,¬T i y
theorem Met.step {n i:Nat} {T:Nat→I2→Prop} {s:St} (h:Met n T s) (ok:ql n s) (hi:i<n) (x:D):Met n (fun k y=>T k y∨(k=i∧y=(x.1,x.2.1))) (jr i s x):=by
 unfold jr;split
 ·rename_i j hj;have hT:=h.yes _ _ hj;have nT:=ok.lt _ _ hj
  refine⟨(h.lab.join hi nT).of_iff fun f=>?_,fun y k hy=>.inl (h.yes y k hy),?_⟩
  ·constructor
   ·rintro hf a b ha hb ⟨y,h1,h2⟩;have ur:f i=f j:=hf i j hi nT (.inr ⟨rfl,rfl⟩);rcases h1 with h1|⟨rfl,rfl⟩<;>rcases h2 with h2|⟨rfl,e2⟩
    ·exact hf a b ha hb (.inl ⟨y,h1,h2⟩)
    ·subst e2;rw[ur];exact hf a j ha nT (.inl ⟨_,h1,hT⟩)
    ·rw[ur];exact(hf b j hb nT (.inl ⟨_,h2,hT⟩)).symm
    ·rfl
   ·rintro hf a b ha hb (⟨y,h1,h2⟩|⟨rfl,rfl⟩)
    ·exact hf a b ha hb ⟨y,.inl h1,.inl h2⟩
    ·exact hf _ _ ha hb ⟨_,.inr ⟨rfl,rfl⟩,.inl hT⟩
  ·rintro y hy k (h1|⟨rfl,rfl⟩)
   ·exact h.no y hy k h1
   ·simp only at hy;rw[hj] at hy;cases hy
 ·rename_i hj;have hT:=h.no _ hj
  refine⟨h.lab.of_iff fun f=>?_,fun y k hy=>?_,fun y hy k hk=>?_⟩
  ·constructor
   ·rintro hf a b ha hb ⟨y,h1,h2⟩;rcases h1 with h1|⟨rfl,e1⟩<;>rcases h2 with h2|⟨rfl,e2⟩
    ·exact hf a b ha hb ⟨y,h1,h2⟩
    ·subst e2;exact absurd h1 (hT a)
    ·subst e1;exact absurd h2 (hT b)
    ·rfl
   ·rintro hf a b ha hb ⟨y,h1,h2⟩;exact hf a b ha hb ⟨y,.inl h1,.inl h2⟩
  ·simp only at hy;split at hy
   ·rename_i e;exact .inr ⟨(Μ hy).symm,e⟩
   ·exact .inl (h.yes y k hy)
  ·simp only at hy;split at hy
   ·cases hy
   ·rename_i e;rcases hk with hk|⟨_,hk⟩
    ·exact h.no y hy k hk
    ·exact e hk
theorem Met.congr {n:Nat} {T T':Nat→I2→Prop} {s:St} (h:Met n T s) (e:∀k y,T k y↔T' k y):Met n T' s:=by
 have:T=T':=by
  funext k y
  exact propext (e k y)
 exact this▸h
theorem CM {n i:Nat} (hi:i<n):∀(R:List D) (T:Nat→I2→Prop) (s:St),Met n T s→ql n s→Met n (fun k y=>T k y∨(k=i∧∃x∈R,y=(x.1,x.2.1))) (R.foldl (jr i) s)
 |[],T,s,h,_=>h.congr fun k y=>by simp
 |x::R,T,s,h,ok=>(CM hi R _ _ (h.step ok hi x) (ok.step hi x)).congr fun k y=>by
   simp only[Η,exists_eq_or_imp];constructor
   ·rintro ((h1|⟨h1,h2⟩)|⟨h1,h2⟩)
    ·exact .inl h1
    ·exact .inr ⟨h1,.inl h2⟩
    ·exact .inr ⟨h1,.inr h2⟩
   ·rintro (h1|⟨h1,h2|h2⟩)
    ·exact .inl (.inl h1)
    ·exact .inl (.inr ⟨h1,h2⟩)
    ·exact .inr ⟨h1,h2⟩
theorem GP {n i:Nat} (hi:i<n):∀(R:List D) (s:St),ql n s→ql n (R.foldl (jr i) s)
 |[],s,hs=>hs
 |x::R,s,hs=>GP hi R _ (hs.step hi x)
theorem CT {n:Nat}:∀(Vs:List VC) (i:Nat) (T:Nat→I2→Prop) (s:St),i+Vs.length≤n→Met n T s→ql n s→
 Met n (fun k y=>T k y∨∃j,k=i+j∧Pj Vs j y) (ta i Vs s)
 |[],i,T,s,_,h,_=>h.congr fun k y=>by
   constructor
   ·exact .inl
   ·rintro (h1|⟨j,_,v,hv,_⟩)
    ·exact h1
    ·cases hv
 |v::r,i,T,s,hn,h,ok=>by
  rw[JaH] at hn;have hi:i<n:=by omega
  refine(CT r (i+1) _ _ (by omega) (CM hi v.2.1.2.2.2 T s h ok) (GP hi _ s ok)).congr fun k y=>?_
  constructor
  ·rintro ((h1|⟨h1,h2⟩)|⟨j,h1,v',h2,h3⟩)
   ·exact .inl h1
   ·exact .inr ⟨0,by omega,v,rfl,h2⟩
   ·exact .inr ⟨j+1,by omega,v',by simpa using h2,h3⟩
  ·rintro (h1|⟨j,h1,v',h2,h3⟩)
   ·exact .inl (.inl h1)
   ·cases j with
    |zero=>
     obtain rfl:v=v':=by simpa using h2
     exact .inl (.inr ⟨by omega,h3⟩)
    |succ j=>exact .inr ⟨j,by omega,v',by simpa using h2,h3⟩
theorem mz (Vs:List VC):uN Vs.length (Sh Vs) (dm Vs):=by
 have h0:Met Vs.length (fun _ _=>False) ((lL Vs.length,fun _=>ε):St):=
  ⟨(uN.up _).of_iff fun f=>by simp[Co],fun y j h=>(by cases h),fun _ _ _ h=>h⟩
 have h1:=(CT Vs 0 _ _ (by omega) h0 ⟨by simp[lL],fun y j h=>(by cases h)⟩).lab;refine h1.of_iff fun f=>?_
 constructor
 ·rintro hf a b ha hb ⟨y,h1,h2⟩;exact hf a b ha hb ⟨y,.inr ⟨a,by omega,h1⟩,.inr ⟨b,by omega,h2⟩⟩
 ·rintro hf a b ha hb ⟨y,h1|⟨j,h1,h3⟩,h2⟩
  ·exact h1.elim
  ·rcases h2 with h2|⟨j2,h2,h4⟩
   ·exact h2.elim
   ·obtain rfl:a=j:=by omega
    obtain rfl:b=j2:=by omega
    exact hf a b ha hb ⟨y,h3,h4⟩
theorem zA {Vs Ws:List VC} (hl:Ws.length=Vs.length) (h:∀i y,Pj Ws i y↔Pj Vs i y):dm Ws=dm Vs:=by
 have h1:=mz Ws;rw[hl] at h1;refine h1.uniq ((mz Vs).of_iff fun f=>?_)
 have:Sh Vs=Sh Ws:=by
  funext i k
  refine propext ⟨?_,?_⟩<;>rintro⟨y,a,b⟩
  ·exact⟨y,(h i y).2 a,(h k y).2 b⟩
  ·exact⟨y,(h i y).1 a,(h k y).1 b⟩
 rw[this]
def cv (L:List Int) (i:Nat):Bool:=L.getD i 0==(i:Int)
def fg (L:List Int):Nat:=(Ω L.length).countP (cv L)
def rk (L:List Int) (r:Nat):Nat:=(Ω r).countP (cv L)
def iX (L:List Int) (j:Nat):List Nat:=(Ω j).filter (cv L)
theorem nC (L:List Int) (j:Nat):(iX L j).length=rk L j:=by rw[iX,rk,List.countP_eq_length_filter]
theorem lT (L:List Int) (j:Nat):iX L (j+1)=iX L j++(if cv L j then[j] else[]):=by
 unfold iX;rw[List.range_succ,List.filter_append];cases h:cv L j<;>simp[h]
theorem Ag (L:List Int) (j:Nat):rk L (j+1)=rk L j+(if cv L j then 1 else 0):=by
 rw[←nC,←nC,lT,Ε];cases cv L j<;>rfl
section
variable {α:Type}
abbrev Rw (α:Type):=Option Κ × Nat × List α
def kX (x:Rw α):ψ:=γ x.1 x.2.2.length x.2.1
def Uw (x:Rw α):List ψ:=[kX x]
structure RowsIn (W:ο) (lo:Nat) (TR TE:Υ) (s:Nat) (f:α→List ψ) (A:Option Κ) (n c:Nat) (X:List (Rw α)):Prop where
 row:W.ownsRow lo TR 1 (γ A n c) n (ah Uw X)
 len:X.length=n
 one:∀x∈X,W.ownsRow lo TE s (kX x) x.2.2.length (ah f x.2.2)
 ne:∀(i j:Nat) (x y:Rw α) (a b:Κ),i≠j→X[i]? =ζ x→X[j]? =ζ y→x.1=ζ a→y.1=ζ b→a.block≠b.block
variable {W W':ο} {lo:Nat} {TR TE:Υ} {s:Nat} {f:α→List ψ} {A:Option Κ} {n c:Nat} {X:List (Rw α)}
theorem RowsIn.up (h:RowsIn W lo TR TE s f A n c X) (hb:Below W.heap.size W W'):RowsIn W' lo TR TE s f A n c X:=
 ⟨bo h.row hb,h.len,fun x hx=>bo (h.one x hx) hb,h.ne⟩
theorem RowsIn.al (h:RowsIn W lo TR TE s f A n c X) (o:Obj):RowsIn (W.alloc o) lo TR TE s f A n c X:=h.up (az W o)
theorem RowsIn.dr (h:RowsIn W lo TR TE s f A n c X):RowsIn W.drew lo TR TE s f A n c X:=h.up ((Below.refl _ _).drew)
theorem RowsIn.bl (h:RowsIn W lo TR TE s f A n c X) (hb:Below W.heap.size W W'):RowsIn W' lo TR TE s f A n c X:=h.up hb
theorem RowsIn.nil_ (W:ο) (lo:Nat):RowsIn W lo TR TE s f ε 0 0 ([]:List (Rw α)):=
 ⟨World.ownsRow_nil W lo TR 1,rfl,fun x hx=>(by cases hx),fun i j x y a b _ h=>(by simp at h)⟩
theorem jM {W:ο} {l1 l2 k1 k2 n1 n2 g:Nat} {T1 T2:Υ} {v1 v2:ψ} {xs ys:List ψ} (h:W.ownsRow l1 T1 k1 v1 n1 xs) (k:W.ownsRow l2 T2 k2 v2 n2 ys) (hT:T1≠T2) (e1:v1.ownBlock=ζ g) (e2:v2.ownBlock=ζ g):False:=by
 rcases h.2 with⟨rfl,h2⟩|⟨g',cap,cur,rfl,hb,hg,-⟩
 ·cases e1
 rcases k.2 with⟨rfl,k2⟩|⟨g2,aof,anB,rfl,aP,iZ,-⟩
 ·cases e2
 obtain rfl:g'=g:=Μ e1;obtain rfl:g2=g':=Μ e2;rw[hg] at iZ;injection iZ with q
 injection q with q1 q2
 exact hT q2
theorem o7 (x:Rw α):(kX x).ownBlock=x.1.map (·.block):=by cases h:x.1<;>simp[kX,h,Value.ownBlock]
theorem RowsIn.far (h:RowsIn W lo TR TE s f A n c X) {r:Option Nat} (hg:W.grownBy W' r) (h1:∀g,r=ζ g→(Ο A n c).ownBlock≠ζ g) (h2:∀x∈X,∀g,r=ζ g→(kX x).ownBlock≠ζ g):RowsIn W' lo TR TE s f A n c X:=by
 refine⟨h.row.kept hg ?_,h.len,fun x hx=>(h.one x hx).kept hg ?_,h.ne⟩
 ·cases r with
  |none=>cases hh:(Ο A n c).ownBlock<;>simp
  |some g=>exact .inr (h1 g rfl)
 ·cases r with
  |none=>cases hh:(kX x).ownBlock<;>simp
  |some g=>exact .inr (h2 x hx g rfl)
end
section
open Go.ChangeShapes Go.WideShapes Go.ChangeAt Go.RowKit
section
variable {H:Type} {enc:TypeId × Value→H} {P:Program}
theorem qF (hl:laidOutB P=true) {W W':World} (hb:Below W.heap.size W W'):∀(ts:List TypeId) (vs:List Value) (ds:List (DataW H)) (ps:List MemPlace) (sp:Nat→Bool),
 (∀t∈ts,P.readableRec t=true∧t<P.types.size)→DataW.TrodAll enc P W 0 (fun _=>true) true ts vs ds ps→
 (∀p∈ps,p.block<W.heap.size)→(∀p∈ps,sp p.block=true)→DataW.TrodAll enc P W' 0 sp true ts vs ds ps
 |[],_,_,_,_,_,h,_,_=>by
  obtain⟨rfl,rfl,rfl⟩:=trodAll_nil h;exact rfl
 |t::ts,vs,ds,ps,sp,ht,h,dz,hs=>by
  obtain⟨v,vs',d,ds',p,q,rfl,rfl,rfl,h1,h2⟩:=trodAll_cons h
  have⟨hr,ry⟩:=ht t (by simp)
  refine⟨p,q,WideElems.Trod_stays hl hr ry h1 (fun x hx=>hb.same (dz x (by simp[hx]))) (fun x hx=>hs x (by simp[hx])),?_,rfl⟩
  exact qF hl hb ts vs' ds' q sp (fun t' h'=>ht t' (by simp[h'])) h2 (fun x hx=>dz x (by simp[hx])) (fun x hx=>hs x (by simp[hx]))
theorem NF {f:Func} {s:ChangeSpec} {tb:TypeId} {W W':World} {args:Array Value} {ds gs:List (DataW H)} {before:List MemPlace}
 (hl:laidOutB P=true) (hts:f.params.toList.all (fun t=>P.readableRec t && decide (t<P.types.size))=true) (hr:f.resultTypes=#[tb]) (htb:P.underlying tb=some .bool) (hv:s.vars=[])
 (hfn:(s.fn H (ds++gs)).results=[.lit (.bool true)]∧(s.fn H (ds++gs)).args=ds∧(s.fn H (ds++gs)).vars=[])
 (hW:DataW.Whole enc P f.params.toList s.vars false W args.toList ds gs before) (hb:Below W.heap.size W W'):
 s.post enc P f false true false false W args (.bool true) W':=by
 have afj:∀t∈f.params.toList,P.readableRec t=true∧t<P.types.size:=fun t ht=>by
  have h:=List.all_eq_true.1 hts t ht;simpa using h
 have dz:∀p∈before,p.block<W.heap.size:=fun p hp=>hW.lt p hp
 have hW':=hW;obtain⟨p,q,hA,hV,rfl,hfz,AK⟩:=hW;rw[hv] at hV;obtain⟨rfl,rfl⟩:=trodVars_none hV;obtain⟨e1,e2,e3⟩:=hfn
 refine⟨ds,[],p++[],[],p,[],hW',?_,?_,?_,?_,fun h=>by cases h⟩
 ·rw[e1,hr];exact trodAll_mk1 (shut_bool htb _)
 ·rw[e2];exact qF hl hb _ _ _ _ _ afj hA (fun x hx=>dz x (by simp[hx])) (fun x hx=>by simpa using dz x (by simp[hx]))
 ·rw[e3,hv];rfl
 ·exact World.keptBut_mono (fun x hx=>⟨hx,by simpa using hx⟩) (hb.frame (·∈p++[]))
end
end
section
open Go.ChangeShapes Go.WideShapes Go.ChangeAt Go.RowKit
section
variable {H:Type} {P:Program}
def In64 (n:Int):Prop:= -9223372036854775808≤n∧n≤9223372036854775807
end
end
section
open Go.ChangeShapes Go.WideShapes Go.ChangeAt Go.RowKit
theorem Tryz.own:ownKnob Tryz.prog.godebug=none:=by kernel_rfl
theorem Tryz.laidOut:laidOutB Tryz.prog=true:=by kernel_rfl
end
section
open Go.ChangeShapes Go.WideShapes Go.ChangeAt Go.RowKit Go.Deep
end
section
open Go.ChangeShapes Go.WideShapes Go.ChangeAt Go.RowKit Go.Deep
section
variable {H:Type} {P:Program} {α β:Type}
def Row1 (H:Type) (P:Program) (t:TypeId) (f:α→List Value) (p:World→α→Prop):Prop:=
 ∀(enc:TypeId × Value→H) (w:World) (held:Bool) (fuel:Nat) (cs:List Value) (x:DataW H × List MemPlace),
  DataW.trod enc P w 0 (fun _=>true) held fuel t cs=some x→∃a,cs=f a∧p w a
theorem pF {t:TypeId} (ht:P.underlying t=some (.int .i64)):Row1 H P t (fun n:Int=>[J n]) (fun _ n=>In64 n):=by
 intro enc w held fuel cs x h;obtain⟨n,rfl,_,hw⟩:=DataW.trod_int ht h;exact⟨n,rfl,bounds_i64 hw⟩
theorem I0 {t:TypeId} (ht:P.underlying t=some .bool):Row1 H P t (fun b:Bool=>[.bool b]) (fun _ _=>True):=by
 intro enc w held fuel cs x h;cases fuel with
 |zero=>simp[DataW.trod] at h
 |succ m=>
  unfold DataW.trod at h;rw[ht] at h;split at h<;>simp_all
theorem CY {t:TypeId} (ht:P.underlying t=some .string):Row1 H P t (fun s:ByteArray=>[.string s]) (fun _ s=>s.size≤maxLen):=by
 intro enc w held fuel cs x h;obtain⟨s,rfl,_,hs⟩:=DataW.trod_string ht h;exact⟨s,rfl,hs⟩
theorem Row1.map {t:TypeId} {f:α→List Value} {p:World→α→Prop} (h:Row1 H P t f p) (g:α→β) {f':β→List Value} {p':World→β→Prop} (hf:∀a,f a=f' (g a)) (hp:∀w a,p w a→p' w (g a)):Row1 H P t f' p':=by
 intro enc w held fuel cs x hx;obtain⟨a,rfl,ha⟩:=h enc w held fuel cs x hx;exact⟨g a,hf a,hp w a ha⟩
def vq (H:Type) (P:Program) (fs:List Field) (off m:Nat) (g:α→List Value) (q:World→α→Prop):Prop:=
 ∀(enc:TypeId × Value→H) (w:World) (held:Bool) (n:Nat) (cs:List Value),
  (∀fl∈fs,∃y,DataW.trod enc P w 0 (fun _=>true) held n fl.type ((cs.drop fl.offset).take (P.cellsOf fl.type))=some y)→∃a,(cs.drop off).take m=g a∧q w a
theorem lr (off:Nat):vq H P [] off 0 (fun _:Unit=>[]) (fun _ _=>True):=fun _ _ _ _ cs _=>⟨(),by simp,trivial⟩
theorem bZ {fl:Field} {fs:List Field} {off k m:Nat} {f:α→List Value} {p:World→α→Prop} {g:β→List Value} {q:World→β→Prop}
 (h:Row1 H P fl.type f p) (ho:fl.offset=off) (hc:P.cellsOf fl.type=k) (hr:vq H P fs (off+k) m g q):
 vq H P (fl::fs) off (k+m) (fun ab:α × β=>f ab.1++g ab.2) (fun w ab=>p w ab.1∧q w ab.2):=by
 intro enc w held n cs aX;obtain⟨y,hy⟩:=aX fl (by simp);obtain⟨a,ha,pa⟩:=h _ _ _ _ _ _ hy;obtain⟨b,hb,qb⟩:=hr enc w held n cs (fun fl' h'=>aX fl' (by simp[h']));rw[ho,hc] at ha
 refine⟨(a,b),?_,pa,qb⟩
 show _=f a++g b;rw[←ha,←hb,List.take_add,List.drop_drop]
theorem jV {t:TypeId} {fs:List Field} {m:Nat} {g:α→List Value} {q:World→α→Prop} (ht:P.underlying t=some (.struct fs.toArray)) (hc:P.cellsOf t=m) (h:vq H P fs 0 m g q):Row1 H P t g q:=by
 intro enc w held fuel cs x hx;obtain⟨xs,n,_,_,hl,hlen,hg⟩:=DataW.trod_struct ht hx
 obtain⟨a,ha,qa⟩:=h enc w held n cs (fun fl hfl=>by
  obtain⟨i,hi⟩:=List.getElem?_of_mem hfl;have h1:=hg i fl (by simpa using hi)
  have dz:i<xs.length:=by
   rw[hlen];simpa using (List.getElem?_eq_some_iff.1 hi).1
  exact⟨xs[i],by rw[h1,List.getElem?_eq_getElem dz]⟩)
 refine⟨a,?_,qa⟩
 rw[←ha,List.drop_zero,List.take_of_length_le (by omega)]
theorem zk {e:TypeId} {k:Nat} {f:α→List Value} {p:World→α→Prop} (hi:Row1 H P e f p) (hc:P.cellsOf e=k) (hk:∀a,(f a).length=k) (enc:TypeId × Value→H) (W:World) (held:Bool) (a:Addr) (nn:Nat):
 ∀n:Nat,(∀i,i<n→∃qy D,W.cells? 0 (a.add (i*P.cellsOf e)) (P.cellsOf e)=some qy∧DataW.trod enc P W 0 (fun _=>true) held nn e qy=some D)→
  ∃l:List α,l.length=n∧(∀j u,(ah f l)[j]? =some u→W.cell? (a.add j)=some u)∧∀x∈l,p W x
 |0,_=>⟨[],rfl,fun j u h=>(by simp[ah] at h),fun x h=>(by cases h)⟩
 |n+1,h=>by
  obtain⟨l,hl,hq,hp⟩:=zk hi hc hk enc W held a nn n (fun i hi=>h i (by omega));obtain⟨qy,D,h1,h2⟩:=h n (by omega);obtain⟨x,rfl,hx⟩:=hi _ _ _ _ _ _ h2;rw[hc] at h1;obtain⟨_,SL,SU⟩:=World.cells?_some h1;have hlen:(ah f l).length=n*k:=by rw[cj f hk,hl]
  refine⟨l++[x],by simp[hl],fun j u hj=>?_,fun y hy=>?_⟩
  ·rw[bY] at hj;rcases Nat.lt_or_ge j (n*k) with dz|OT
   ·rw[List.getElem?_append_left (by omega)] at hj;exact hq j u hj
   ·rw[List.getElem?_append_right (by omega),hlen] at hj;simp only[ah,List.append_nil] at hj
    have VB:j - n*k<k:=by
     rcases Nat.lt_or_ge (j - n*k) k with h3|h3
     ·exact h3
     ·rw[List.getElem?_eq_none (by rw[hk];exact h3)] at hj;cases hj
    have h4:=SU (j - n*k) VB;rw[hj,add_add,show n*k+(j - n*k)=j by omega] at h4;exact h4
  ·rcases List.mem_append.1 hy with hy|hy
   ·exact hp y hy
   ·obtain rfl:=List.mem_singleton.1 hy;exact hx
def TY (k:Nat) (f:α→List Value) (p:World→α→Prop) (w:World) (s:Option Addr × Nat × Nat × List α):Prop:=
 s.2.2.1≤maxLen∧bg w w.heap.size k s.1 s.2.1 s.2.2.1 (ah f s.2.2.2)∧∀x∈s.2.2.2,p w x
def Ay (s:Option Addr × Nat × Nat × List α):List Value:=[.slice s.1 s.2.1 s.2.2.1]
theorem wm {t e:TypeId} {k:Nat} {f:α→List Value} {p:World→α→Prop} (hi:Row1 H P e f p) (ht:P.underlying t=some (.slice e)) (hc:P.cellsOf e=k) (hk:∀a,(f a).length=k) (h0:0<k):
 Row1 H P t (Ay (α:=α)) (TY k f p):=by
 intro enc W held fuel cs x hf;rcases open_slice ht hf with⟨rfl,_⟩|⟨a,n,c,m,q,D,Pl,rfl,hb,hl,hm,Ee,hx,Fb⟩
 ·exact⟨(none,0,0,[]),rfl,Nat.zero_le _,⟨by simp[ah],fun _=>⟨rfl,rfl⟩,Nat.le_refl _,fun a ha=>(by cases ha),fun a ha=>(by cases ha)⟩,fun x hx=>(by cases hx)⟩
 ·have hmc:m=c:=by simpa using Ee
  clear Ee;subst m
  obtain⟨l,hlen,yC,hp⟩:=zk hi hc hk enc W held a q n (fun i him=>by
   obtain⟨qy,h1,h2⟩:=Fb i (by omega);exact⟨qy,_,h1,h2⟩)
  refine⟨(some a,n,c,l),rfl,hm,⟨by rw[cj f hk,hlen],fun e=>(by cases e),hl,fun a' ha hn=>?_,fun a' ha j u hu=>?_⟩,hp⟩
  ·obtain rfl:=Option.some.inj ha;have h0':0<(ah f l).length:=by rw[cj f hk,hlen];exact Nat.mul_pos hn h0
   have:=World.block_lt_of_cell? W _ (yC 0 _ (List.getElem?_eq_getElem h0'))
   simpa [Addr.add] using this
  ·obtain rfl:=Option.some.inj ha;exact yC j u hu
theorem open_row1_struct {w W:World} {t:TypeId} {fs:Array Field} {f:α→List Value} {p:World→α→Prop} {r:Reach} {b0:Nat} {enc:TypeId × Value→H} {held:Bool} {v:Value} {d:DataW H} {ps:List MemPlace}
 (hi:Row1 H P t f p) (ht:P.underlying t=some (.struct fs)) (hv:Value.okWide P w r b0 t v) (hd:DataW.Trod enc P W 0 (fun _=>true) held t v d ps):
 ∃a,v=.agg (f a).toArray∧p W a:=by
 simp only[Value.okWide,ht] at hv;obtain⟨cs,rfl,_,_⟩:=hv;obtain⟨fuel,hf⟩:=hd;obtain⟨a,q,ha⟩:=hi _ _ _ _ _ _ hf
 refine⟨a,?_,ha⟩
 simp only[Value.cells] at q;rw[←q,Array.toArray_toList]
theorem uT {w W:World} {t e:TypeId} {k:Nat} {f:α→List Value} {p:World→α→Prop} {r:Reach} {b0:Nat} {enc:TypeId × Value→H} {held:Bool} {v:Value} {d:DataW H} {ps:List MemPlace}
 (hi:Row1 H P e f p) (ht:P.underlying t=some (.slice e)) (hc:P.cellsOf e=k) (hk:∀a,(f a).length=k) (h0:0<k)
 (hv:Value.okWide P w r b0 t v) (hd:DataW.Trod enc P W 0 (fun _=>true) held t v d ps):
 ∃s:Option Addr × Nat × Nat × List α,v=.slice s.1 s.2.1 s.2.2.1∧TY k f p W s:=by
 obtain⟨A0,n0,c0,rfl⟩:=okWide_slice ht hv;obtain⟨fuel,hf⟩:=hd;obtain⟨s,q,hs⟩:=wm hi ht hc hk h0 _ _ _ _ _ _ hf
 refine⟨s,?_,hs⟩
 simpa [Value.cells,Ay] using q
end
end
section
open Go.ChangeShapes Go.WideShapes Go.ChangeAt Go.RowKit Go.Deep
section
variable {H:Type} {P:JaE} {α β:Type}
def IQ (H:Type) (P:JaE) (t:Υ) (f:α→List ψ) (p:ο→α→Prop):Prop:=
 ∀(enc:Υ × ψ→H) (w:ο) (held:Bool) (fuel:Nat) (cs:List ψ) (x:DataW H × List MemPlace),
  DataW.trod enc P w 0 (fun _=>τ) held fuel t cs=ζ x→(∀n∈x.1.weights P t,n≤reachBytes)→∃a,cs=f a∧p w a
theorem Row1.z {t:Υ} {f:α→List ψ} {p:ο→α→Prop} (h:Row1 H P t f p):IQ H P t f p:=fun enc w held fuel cs x hx _=>h enc w held fuel cs x hx
theorem IQ.map {t:Υ} {f:α→List ψ} {p:ο→α→Prop} (h:IQ H P t f p) (g:α→β) {f':β→List ψ} {p':ο→β→Prop} (hf:∀a,f a=f' (g a)) (hp:∀w a,p w a→p' w (g a)):IQ H P t f' p':=by
 intro enc w held fuel cs x hx hz;obtain⟨a,rfl,ha⟩:=h enc w held fuel cs x hx hz;exact⟨g a,hf a,hp w a ha⟩
end
end
theorem aG.small {A:Option Κ} {n c:Nat} {Vs:List VC} {B:Option Κ} {m k:Nat} {Es:List EC} {w:ο} (hf:aG Vs Es) (h:bz w A n c Vs B m k Es):n≤24∧m≤40∧∀x∈Vs,x.2.1.2.1≤80:=by
 have h1:=h.v.rlen aS (by decide);have h2:=h.e.rlen bM (by decide);have h3:=hf.v24;have h4:=hf.e40
 refine⟨by omega,by omega,fun x hx=>?_⟩
 have h5:=(h.r x hx).2.dlen;have h6:=hf.len
 have h7:x.2.1.2.2.2.length≤(ao Vs).length:=by
  clear h1 h2 h3 h4 h5 h6 h hf
  induction Vs with
  |nil=>cases hx
  |cons v r ih=>
   rw[eA,Ε];rcases Η.1 hx with rfl|hx
   ·omega
   ·have:=ih hx;omega
 omega
def xI (R:List D):Nat→(D→Option D)→D→Option D
 |0,f=>f
 |k+1,f=>fun y=>if y=R.getD k (0,0,0) then ζ (R.getD ((k+1) % R.length) (0,0,0)) else xI R k f y
def xJ:List VC→(D→Option D)→D→Option D
 |[],f=>f
 |v::r,f=>xJ r (xI v.2.1.2.2.2 v.2.1.2.2.2.length f)
def gi (Vs:List VC):D→Option D:=xJ Vs (fun _=>ε)
section
variable {P:JaE} {ops:Array Oper} {Q:Exit→Act→ο→Prop} {md:Jbj}
def NR (md:Jbj) (ops:Array Oper) (n e:Nat):Bool:=(Ω ops.size).all fun k=>decide (k<n)||match ops[k]? with|some o=>(Ω n).all fun j=>j==e||(dB md o).contains j|none=>τ
theorem Eo {n e k:Nat} {o:Oper} (h:NR md ops n e=τ) (hk:n≤k) (ho:ops[k]? =ζ o):∀j,j<n→j≠e→j∈dB md o:=by
 intro j hj D0;have U3:=(Jaa.1 ho).1;have h1:=Φ.1 h k (by simp[U3]);rw[ho] at h1;have h2:decide (k<n)=ρ:=decide_eq_false (by omega);simp only[h2,Bool.false_or] at h1;have h3:=Φ.1 h1 j (by simp[hj]);have h4:(j==e)=ρ:=by simpa using D0
 rw[h4,Bool.false_or] at h3;simpa using h3
theorem Jo (n e:Nat) (S:Nat→Prop) {oe:Oper} (Γ:Nat→ψ→ο→Prop) (G:ο→Prop) (a0:Act) (hΓ:∀i v w w',Γ i v w→Ext w w'→Γ i v w') (hG:∀w w',G w→Ext w w'→G w')
 (hd:eL ops=τ) (hr:lC md ops=τ) (hn:n≤ops.size) (ht:NR md ops n e=τ) (hen:e<n) (Ke:ops[e]? =ζ oe) (qO:JbJ ops=τ)
 (Iv:JbP md ops ((jl n ops.size).setIfInBounds e ρ) e=τ) (GI:(Jaq md ops ((jl n ops.size).setIfInBounds e ρ)).contains e=τ)
 (hQ:∀v c a w,Q (.panic c) (a.put oe.dst v) w→Q (.panic c) a w) (lp:∀i,i<n→nU P md ops Γ G a0 i)
 (DI:∀x w,G w→(∀i,i<n→i≠e→Γ i (x i) w)→∃v,cM P ops S oe v (aj x (aE ops) 0 a0) w∧Γ e v w)
 (jw:∀x w,G w→(∀i,i<n→Γ i (x i) w)→nc P md ops S Q (ops.size - n) (jl n ops.size) (aj x (aE ops) 0 a0) w):
 ∀(fuel:Nat) (af:Array Bool) (x:Nat→ψ) (w:ο),af.size=ops.size→(∀k,n≤k→k<ops.size→af.getD k ρ=ρ)→(Ω ops.size).countP (fun j=>af.getD j ρ)+fuel=ops.size→
  G w→(∀i,i<n→af.getD i ρ=τ→Γ i (x i) w)→wpAny P md ops Q fuel af (aj x (aE ops) 0 a0) w:=by
 have ml:∀(af:Array Bool),af.size=ops.size→(¬∀i,i<n→af.getD i ρ=τ)→∃i,i<n∧i∈Jaq md ops af:=by
  intro af hs kZ
  by_cases hex:∃i,i<n∧i∈Jaq md ops af
  ·exact hex
  ·exfalso;refine kZ fun i=>?_
   induction i using Nat.strongRecOn with
   |_ i ih=>
    intro hi
    by_cases hl:af.getD i ρ=τ
    ·exact hl
    ·exfalso;refine hex ⟨i,hi,?_⟩;rw[mem_ready];have sY:i<ops.size:=by omega
     have zf:i<af.size:=by omega
     have h1:af.getD i τ=ρ:=by
      simp[JaD,zf] at hl ⊢;exact hl
     refine⟨h1,ops[i],by simp[sY],fun e he hb=>?_⟩
     have h2:=Φ.1 (show(Ω ops.size).all _=τ from hr) i (by simp[sY]);simp[sY] at h2
     have h3:=h2 e.on (by
      unfold dB;exact Α.2 ⟨e,JaC.2 ⟨by simpa using he,hb⟩,rfl⟩)
     exact ih e.on h3 (by omega)
 intro fuel
 induction fuel with
 |zero=>
  intro af x w hs hk hc hg hx
  have hl:∀i,i<ops.size→af.getD i ρ=τ:=fun i hi=>by
   have h1:(Ω ops.size).countP (fun j=>af.getD j ρ)=(Ω ops.size).length:=by simpa using hc
   exact List.countP_eq_length.1 h1 i (by simp[hi])
  have kZ:n=ops.size:=by
   rcases JaM n ops.size with h|h
   ·have h1:=hl n h;rw[hk n (Δ _) h] at h1;cases h1
   ·omega
  have he:=jw x w hg fun i hi=>hx i hi (hl i (by omega))
  rw[show ops.size - n=0 by omega] at he
  have e1:af=jl n ops.size:=by
   apply Array.ext
   ·rw[fW,hs]
   ·intro j h1 h2;have h3:=hl j (by omega);have h4:=eV n ops.size j (by omega);rw[decide_eq_true (by omega)] at h4;simp[JaD,h1] at h3;simp[JaD,h2] at h4;rw[h3,h4]
  rw[e1];exact fH _ _ _ _ he
 |succ fuel ih=>
  intro af x w hs hk hc hg hx
  by_cases aX:∀i,i<n→af.getD i ρ=τ
  ·have he:=jw x w hg fun i hi=>hx i hi (aX i hi)
   have e1:af=jl n ops.size:=by
    apply Array.ext
    ·rw[fW,hs]
    ·intro j h1 h2;have h4:=eV n ops.size j (by omega);simp[JaD,h2] at h4
     by_cases hj:j<n
     ·have h3:=aX j hj;simp[JaD,h1] at h3;rw[h3,h4,decide_eq_true hj]
     ·have h3:=hk j (by omega) (by omega);simp[JaD,h1] at h3;rw[h3,h4,decide_eq_false hj]
   have e2:(Ω ops.size).countP (fun j=>af.getD j ρ)=n:=by
    rw[e1]
    have:(Ω ops.size).countP (fun j=>(jl n ops.size).getD j ρ)=(Ω ops.size).countP (fun j=>decide (j<n)):=by
     apply List.countP_congr;intro j hj;rw[eV n ops.size j (by simpa using hj)]
    rw[this,mF];omega
   rw[show ops.size - n=fuel+1 by omega] at he;rw[e1];exact fH _ _ _ _ he
  ·by_cases rU:∀i,i<n→i≠e→af.getD i ρ=τ
   ·have hef:af.getD e ρ=ρ:=by
     cases hb:af.getD e ρ with
     |false=>rfl
     |true=>
      refine absurd (fun i hi=>?_) aX
      by_cases Ic:i=e
      ·rw[Ic];exact hb
      ·exact rU i hi Ic
    have e1:af.setIfInBounds e τ=jl n ops.size:=by
     apply Array.ext
     ·rw[fW,Array.size_setIfInBounds,hs]
     ·intro j h1 h2;have qq:j<af.size:=by simpa using h1
      have h4:=eV n ops.size j (by rw[←hs];exact qq);simp[JaD,h2] at h4;rw[Array.getElem_setIfInBounds (by simpa using h1)]
      by_cases D0:e=j
      ·subst D0;rw[if_pos rfl,h4,decide_eq_true hen]
      ·rw[if_neg D0]
       by_cases hj:j<n
       ·have h3:=rU j hj (Ne.symm D0);simp[JaD,qq] at h3;rw[h3,h4,decide_eq_true hj]
       ·have h3:=hk j (by omega) (by omega);simp[JaD,qq] at h3;rw[h3,h4,decide_eq_false hj]
    have e3:af=(jl n ops.size).setIfInBounds e ρ:=by
     rw[←e1,Array.setIfInBounds_setIfInBounds];apply Array.ext
     ·simp
     ·intro j h1 h2;rw[Array.getElem_setIfInBounds (by simpa using h2)]
      by_cases D0:e=j
      ·subst D0;rw[if_pos rfl];simp[JaD,h1] at hef;exact hef
      ·rw[if_neg D0]
    have e2:(Ω ops.size).countP (fun j=>af.getD j ρ)+1=n:=by
     have h1:(Ω ops.size).countP (fun j=>(jl n ops.size).getD j ρ)=(Ω ops.size).countP (fun j=>decide (j<n)):=by
      apply List.countP_congr;intro j hj;rw[eV n ops.size j (by simpa using hj)]
     have Fb:e<af.size:=by omega
     have mX:=fG (fun j=>af.getD j ρ) (fun j=>(af.setIfInBounds e τ).getD j ρ) e hef (by simp[JaD,Fb]) (fun j hj=>Jbq ρ (Ne.symm hj)) ops.size;rw[e1,h1,mF,if_pos (by omega)] at mX;omega
    obtain⟨v,hy,hv⟩:=DI x w hg fun i hi Ic=>hx i hi (rU i hi Ic)
    have tq:(aE ops)[e]? =ζ oe.dst:=by
     unfold aE;rw[Ψ,Array.getElem?_toList,Ke];rfl
    have kf:(aj x (aE ops) 0 a0).put oe.dst v=aj (kQ x e v) (aE ops) 0 a0:=
     iy x e v (aE ops) 0 a0 oe.dst (Jas _) (by simpa using tq) (fun j e2 hj bj t ht he=>by
      rw[Nat.sub_zero] at bj;rw[ht] at tq;rw[he] at hj;exact bj (fc hd hj tq))
    have he:=jw (kQ x e v) w hg fun i hi=>by
     by_cases Ic:i=e
     ·subst Ic;simpa [kQ] using hv
     ·rw[show kQ x e v i=x i from if_neg Ic];exact hx i hi (rU i hi Ic)
    rw[show ops.size - n=fuel by omega,←kf,←e1] at he;refine fH _ _ _ _ (vZ e oe.dst Ke rfl qO ?_ ?_ hQ ⟨v,hy,he⟩)
    ·rw[e3];exact Iv
    ·rw[e3];exact GI
   obtain⟨i0,Bz,xq⟩:=ml af hs aX
   refine⟨fun h0=>(by rw[h0] at xq;cases xq),fun i hi=>?_⟩
   obtain⟨h1,o,ho,aD⟩:=mem_ready.1 hi;have sY:i<ops.size:=(Jaa.1 ho).1;have zf:i<af.size:=by omega
   have jm:i<n:=by
    rcases JaM i n with h|h
    ·exact h
    ·exfalso;refine rU fun j hj D0=>?_
     have h2:=Eo ht h ho j hj D0;unfold dB at h2;obtain⟨e,he,rfl⟩:=Α.1 h2;obtain⟨BS,BA⟩:=JaC.1 he;exact aD e (by simpa using BS) BA
   have tq:(aE ops)[i]? =ζ o.dst:=by
    unfold aE;rw[Ψ,Array.getElem?_toList,ho];rfl
   have kf:∀v,(aj x (aE ops) 0 a0).put o.dst v=aj (kQ x i v) (aE ops) 0 a0:=fun v=>
    iy x i v (aE ops) 0 a0 o.dst (Jas _) (by simpa using tq) (fun j e hj bj t ht he=>by
     rw[Nat.sub_zero] at bj;rw[ht] at tq;rw[he] at hj;exact bj (fc hd hj tq))
   have mR:∀v w',Ext w w'→Γ i v w'→wpAny P md ops Q fuel (af.setIfInBounds i τ) (aj (kQ x i v) (aE ops) 0 a0) w':=fun v w' hw hv=>by
    refine ih _ _ _ (by simpa using hs) (fun k h1 h2=>?_) ?_ (hG _ _ hg hw) fun j KV hj=>?_
    ·rw[Jbq ρ (by omega)];exact hk k h1 h2
    ·have mX:=fG (fun j=>af.getD j ρ) (fun j=>(af.setIfInBounds i τ).getD j ρ) i (by simp[JaD,zf] at h1 ⊢;exact h1) (by simp[JaD,zf]) (fun j hj=>Jbq ρ (Ne.symm hj)) ops.size;rw[mX,if_pos sY];omega
    ·by_cases e:j=i
     ·subst e;simpa [kQ] using hv
     ·rw[Jbq ρ (Ne.symm e)] at hj;rw[show kQ x i v j=x j from if_neg e];exact hΓ _ _ _ _ (hx j KV hj) hw
   have OY:=lp i jm o ho x w hg (fun j hj=>by
    have ya:j<i:=by
     have h2:=Φ.1 (show(Ω ops.size).all _=τ from hr) i (by simp[sY]);rw[ho] at h2;simpa using Φ.1 h2 j hj
    unfold dB at hj;obtain⟨e,he,rfl⟩:=Α.1 hj;obtain⟨BS,BA⟩:=JaC.1 he;exact hx _ (by omega) (aD e (by simpa using BS) BA))
   unfold wpOp;simp only[ho];rcases OY with⟨hw,wQ⟩|⟨hw,hu⟩
   ·simp only[hw,if_true];exact .inl (wQ.wp fun v w' jq hv=>by rw[kf];exact mR v w' jq hv)
   ·simp only[hw,Bool.false_eq_true,if_false];rw[kf];exact mR undef w (Ext.refl w) hu
theorem cJ (n e:Nat) (S:Nat→Prop) {id:Nat} {a0:Act} {w:ο} {oe:Oper} (Γ:Nat→ψ→ο→Prop) (G:ο→Prop) (hm:P.follows .mixedOrders=τ)
 (hd:eL ops=τ) (hr:lC .any ops=τ) (hn:decide (n≤ops.size)=τ) (ht:NR .any ops n e=τ) (hen:decide (e<n)=τ) (Ke:ops[e]? =ζ oe) (qO:JbJ ops=τ)
 (Iv:JbP .any ops ((jl n ops.size).setIfInBounds e ρ) e=τ) (GI:(Jaq .any ops ((jl n ops.size).setIfInBounds e ρ)).contains e=τ)
 (hQ:∀v c a w,Q (.panic c) (a.put oe.dst v) w→Q (.panic c) a w)
 (hΓ:∀i v w w',Γ i v w→Ext w w'→Γ i v w') (hG:∀w w',G w→Ext w w'→G w') (hg:G w.drew)
 (lp:∀i,i<n→nU P .any ops Γ G a0 i)
 (DI:∀x w,G w→(∀i,i<n→i≠e→Γ i (x i) w)→∃v,cM P ops S oe v (aj x (aE ops) 0 a0) w∧Γ e v w)
 (jw:∀x w,G w→(∀i,i<n→Γ i (x i) w)→nc P .any ops S Q (ops.size - n) (jl n ops.size) (aj x (aE ops) 0 a0) w):(Code.region id ops τ).wp P Q a0 w:=by
 obtain⟨x,hx⟩:=jN (aE ops) 0 a0
 have hz:∀k,(Jbe ops.size ρ).getD k ρ=ρ:=fun k=>by
  by_cases h:k<ops.size<;>simp[JaD,h]
 have h:=Jo (P:=P) (Q:=Q) (md:=.any) n e S Γ G a0 hΓ hG hd hr (of_decide_eq_true hn) ht (of_decide_eq_true hen) Ke qO Iv GI hQ lp DI jw ops.size (Jbe ops.size ρ) x w.drew (by simp) (fun k _ _=>hz k) (by
  have:(Ω ops.size).countP (fun j=>(Jbe ops.size ρ).getD j ρ)=0:=by
   rw[List.countP_eq_zero];intro j hj;rw[hz j];simp
  omega) hg (fun i _ hi=>by rw[hz i] at hi;cases hi)
 rw[hx] at h;exact wp_region_any hm h
end
def BQ (vs:List (Option ψ)) (ai B:Nat) (T:Υ) (cs:List ψ) (i:Nat) (v:ψ) (W:ο):Prop:=
 if i=ai then ∃g,v=.pointer (ζ ⟨g,0,ε⟩)∧B≤g∧Whole W g T cs else match vs[i]? with
  |some (ζ u)=>v=u
  |_=>True
theorem sJ {vs:List (Option ψ)} {ai B:Nat} {T:Υ} {cs:List ψ} (i:Nat) (v:ψ) (W W':ο) (h:BQ vs ai B T cs i v W) (hx:Ext W W'):BQ vs ai B T cs i v W':=by
 unfold BQ at h ⊢;split at h
 ·rename_i e;rw[if_pos e];obtain⟨g,h1,h2,h3⟩:=h;exact⟨g,h1,h2,h3.bl hx⟩
 ·rename_i e;rw[if_neg e];exact h
section
attribute [local go_sem] Oper.semAt_some
def wfS (d:D):Prop:=su d∧0≤d.2.2∧d.2.2≤1
abbrev D2:={d:D // wfS d}
def dw (d:D):D:=(d.1,d.2.1,1 - d.2.2)
theorem wfS.oth {d:D} (h:wfS d):wfS (dw d):=by
 obtain⟨⟨h1,h2,h3⟩,h4,h5⟩:=h
 refine⟨⟨h1,h2,?_⟩,by show 0≤1 - d.2.2;omega,by show 1 - d.2.2≤1;omega⟩
 show(Lit.int .i64 (1 - d.2.2)).wf=τ
 have e0:(1:Int) - d.2.2=0∨(1:Int) - d.2.2=1:=by omega
 rcases e0 with e0|e0<;>rw[e0]<;>decide
end
section
attribute [local go_sem] Oper.semAt_some
theorem mi {w:ο} {lo lo':Nat} {e:Υ} {k n:Nat} {v:ψ} {xs:List ψ} (h:w.ownsRow lo e k v n xs) (hb:lo'≤lo):w.ownsRow lo' e k v n xs:=by
 refine⟨h.1,?_⟩
 rcases h.2 with q|⟨g,cap,cur,q1,q2,q3⟩
 ·exact .inl q
 ·exact .inr ⟨g,cap,cur,q1,by omega,q3⟩
end
def yt (g:D→Option D) (S:List D):Prop:=S.Nodup∧(∀d∈S,su d)∧∀x,su x→(x∈S↔(g x).isSome=τ)
def rgV (v:VC) (L:List D):VC:=(v.1,(ε,L.length,0,L),v.2.2)
def remV (x:D) (v:VC):VC:=rgV v (aM (kt v.2.1.2.2.2 x))
theorem pw (A B:List VC):ao (A++B)=ao A++ao B:=List.flatMap_append ..
theorem jR (v:VC) (B:List VC):ao (v::B)=v.2.1.2.2.2++ao B:=List.flatMap_cons ..
theorem lu {Vs:List VC} (h:(ao Vs).Nodup) {v:VC} (hv:v∈Vs):v.2.1.2.2.2.Nodup:=by
 obtain⟨a,b,rfl⟩:=List.append_of_mem hv;rw[pw,jR] at h;exact(JaL.1 (JaL.1 h).2.1).1
end Go.Proofs.YtpdpbfmiahjiiaaGreat
