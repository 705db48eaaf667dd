/- Several texts in one. -/
import Derived.Test.YtpdpbfmiahjiiaaGreatPsAA
import Derived.Test.YtpdpbfmiahjiiaaGreatPsAB
import Derived.Test.YtpdpbfmiahjiiaaGreatPsAD
import Derived.Test.YtpdpbfmiahjiiaaGreatPsAG
import Derived.Test.YtpdpbfmiahjiiaaGreatPsAH
import Derived.Test.YtpdpbfmiahjiiaaGreatPsAI
import Derived.Shelf.SlSortCmp.NoneTotal
import Derived.Shelf.SlSortCmp.WholeK
import Derived.Test.YtpdpbfmiahjiiaaGreatShelf
import Derived.Maps.OwnIn
set_option linter.unusedSectionVars false
set_option linter.unusedSimpArgs false
set_option linter.unusedVariables false
set_option maxRecDepth 100000
set_option maxHeartbeats 16000000
namespace Go.Proofs.YtpdpbfmiahjiiaaGreat
open Go.RowKit
open _root_.Go.Value renaming slice→γ,slice→Ο
open _root_.Option renaming none→ε,some→ζ,some→Jae
open _root_.Go.Proofs.Tryz renaming prog→η
open _root_.List renaming getElem?_eq_getElem→θ,getElem?_eq_some_iff→ν,getD_eq_getElem?_getD→χ,mem_of_getElem?→ω,mem_map→Α,length_append→Ε,mem_cons→Η,range→Ω,mem_cons_of_mem→Jad,mem_cons_self→Jai,mem_append→Jan,mem_singleton→Jao,mem_flatMap→Jat,length_cons→JaH,nodup_append→JaL,take_add_one→Jbc,length_pos_of_mem→Jbk
open _root_.Go renaming World→ο,Value→ψ,Addr→Κ,TypeId→Υ
open _root_.Bool renaming false→ρ,true→τ
open _root_.Go.RowKit renaming Below→σ
open _root_.Go.RowKit.Below renaming refl→Θ
open _root_.Nat renaming le_trans→Λ,mod_eq_of_lt→JbE
open _root_.Option.some renaming inj→Μ
open _root_.Go.IntKind renaming i64→Jaw
open _root_.Go.Builtin renaming append_→JaY
open _root_.Prod.mk renaming injEq→Jba
open _root_.Go.World renaming size_alloc→JbF
def vI (L:List Int) (e:Nat × Nat):List Int:=(L.set e.1 (min (L.getD e.1 0) (L.getD e.2 0))).set e.2 (min (L.getD e.1 0) (L.getD e.2 0))
def dq (P:List (Nat × Nat)) (n:Nat):Nat→List Int
 |0=>lL n
 |j+1=>P.foldl vI (dq P n j)
theorem Ih (L:List Int) (e:Nat × Nat):(vI L e).length=L.length:=by simp[vI]
theorem xt:∀(P:List (Nat × Nat)) (L:List Int),(P.foldl vI L).length=L.length
 |[],_=>rfl
 |e::P,L=>by rw[List.foldl_cons,xt P,Ih]
theorem nE (P:List (Nat × Nat)) (n:Nat):∀j,(dq P n j).length=n
 |0=>by simp[dq,lL]
 |j+1=>by rw[dq,xt,nE P n j]
theorem CB (L:List Int) (i k:Nat) (v:Int) (hi:i<L.length):(L.set i v).getD k 0=if i=k then v else L.getD k 0:=by
 rw[χ,List.getElem?_set,χ]
 by_cases h:i=k
 ·subst h;simp[hi]
 ·simp[h]
theorem AU {L:List Int} {a b:Nat} (ha:a<L.length) (hb:b<L.length) (k:Nat):(vI L (a,b)).getD k 0=if k=a∨k=b then min (L.getD a 0) (L.getD b 0) else L.getD k 0:=by
 unfold vI;rw[CB _ _ _ _ (by simpa using hb),CB _ _ _ _ ha]
 by_cases h1:b=k
 ·rw[if_pos h1,if_pos (.inr h1.symm)]
 ·rw[if_neg h1]
  by_cases h2:a=k
  ·rw[if_pos h2,if_pos (.inl h2.symm)]
  ·rw[if_neg h2,if_neg (fun h=>h.elim (fun h=>h2 h.symm) (fun h=>h1 h.symm))]
def Down (n:Nat) (M L L':List Int):Prop:=L'.length=n∧∀i,i<n→M.getD i 0≤L'.getD i 0∧L'.getD i 0≤L.getD i 0
theorem CV {n:Nat} {M L:List Int} {a b:Nat} (hl:L.length=n) (hM:∀i,i<n→M.getD i 0≤L.getD i 0) (ha:a<n) (hb:b<n) (he:M.getD a 0=M.getD b 0):Down n M L (vI L (a,b)):=by
 refine⟨by rw[Ih,hl],fun i hi=>?_⟩
 rw[AU (by omega) (by omega)];have h1:=hM a ha;have h2:=hM b hb;have h3:=hM i hi;split
 ·rename_i h;rcases h with rfl|rfl<;>omega
 ·omega
theorem pX {n:Nat} {M:List Int}:∀(P:List (Nat × Nat)) (L:List Int),L.length=n→(∀i,i<n→M.getD i 0≤L.getD i 0)→(∀e∈P,e.1<n∧e.2<n∧M.getD e.1 0=M.getD e.2 0)→Down n M L (P.foldl vI L)
 |[],L,hl,hM,_=>⟨hl,fun i hi=>⟨hM i hi,Int.le_refl _⟩⟩
 |(a,b)::P,L,hl,hM,hP=>by
  obtain⟨h1,h2,h3⟩:=hP (a,b) (Jai ..);have hd:=CV hl hM h1 h2 h3;obtain⟨g1,g2⟩:=pX P (vI L (a,b)) hd.1 (fun i hi=>(hd.2 i hi).1) (fun e he=>hP e (Jad _ he));exact⟨g1,fun i hi=>⟨(g2 i hi).1,Int.le_trans (g2 i hi).2 (hd.2 i hi).2⟩⟩
theorem zl {n:Nat} {M:List Int} {a b:Nat}:∀(P:List (Nat × Nat)) (L:List Int),L.length=n→(∀i,i<n→M.getD i 0≤L.getD i 0)→(∀e∈P,e.1<n∧e.2<n∧M.getD e.1 0=M.getD e.2 0)→(a,b)∈P→
 (L.getD a 0=M.getD a 0∨L.getD b 0=M.getD b 0)→(P.foldl vI L).getD a 0=M.getD a 0∧(P.foldl vI L).getD b 0=M.getD b 0
 |(c,d)::P,L,hl,hM,hP,hm,ho=>by
  obtain⟨h1,h2,h3⟩:=hP (c,d) (Jai ..);obtain⟨k1,k2,k3⟩:=hP (a,b) hm;simp only at k1 k2 k3 h1 h2 h3;have hd:=CV hl hM h1 h2 h3;have hPr:=fun e he=>hP e (Jad (c,d) he)
  rw[List.foldl_cons]
  by_cases e:(a,b)=(c,d)
  ·injection e with e1 e2
   subst e1 e2;have Rm:=pX P (vI L (a,b)) hd.1 (fun i hi=>(hd.2 i hi).1) hPr;have ga:=AU (L:=L) (a:=a) (b:=b) (by omega) (by omega) a;have gb:=AU (L:=L) (a:=a) (b:=b) (by omega) (by omega) b;rw[if_pos (.inl rfl)] at ga;rw[if_pos (.inr rfl)] at gb;have ma:=hM a k1;have mb:=hM b k2;obtain⟨q1,q2⟩:=Rm.2 a k1;obtain⟨q3,q4⟩:=Rm.2 b k2;rw[ga] at q2;rw[gb] at q4;have amy:min (L.getD a 0) (L.getD b 0)=M.getD a 0:=by rcases ho with h|h<;>omega
   constructor<;>omega
  ·have O0:(a,b)∈P:=(Η.1 hm).resolve_left e;refine zl P (vI L (c,d)) hd.1 (fun i hi=>(hd.2 i hi).1) hPr O0 ?_;rcases ho with h|h
   ·have:=hd.2 a k1;exact .inl (by omega)
   ·have:=hd.2 b k2;exact .inr (by omega)
def hasB (M L:List Int) (i:Nat):Bool:=L.getD i 0==M.getD i 0
theorem FN {n:Nat} {P:List (Nat × Nat)} {M:List Int} (h:uN n (fun i k=>(i,k)∈P) M) (hP:∀e∈P,e.1<n∧e.2<n):dq P n n=M:=by
 have hP3:∀e∈P,e.1<n∧e.2<n∧M.getD e.1 0=M.getD e.2 0:=fun e he=>⟨(hP e he).1,(hP e he).2,h.co e.1 e.2 (hP e he).1 (hP e he).2 he⟩
 have OY:∀i,i<n→0≤M.getD i 0∧M.getD i 0≤i∧M.getD (M.getD i 0).toNat 0=M.getD i 0:=fun i hi=>h.ok i (by rw[h.len];exact hi)
 have OT:∀j,∀i,i<n→M.getD i 0≤(dq P n j).getD i 0∧(dq P n j).getD i 0≤i:=fun j=>by
  induction j with
  |zero=>
   intro i hi;show M.getD i 0≤(lL n).getD i 0∧(lL n).getD i 0≤i;rw[tH n i hi];exact⟨(OY i hi).2.1,Int.le_refl _⟩
  |succ j ih=>
   intro i hi;have hd:=pX P (dq P n j) (nE P n j) (fun i hi=>(ih i hi).1) hP3;exact⟨(hd.2 i hi).1,Int.le_trans (hd.2 i hi).2 (ih i hi).2⟩
 have ku:∀j i,i<n→hasB M (dq P n j) i=τ→hasB M (dq P n (j+1)) i=τ:=fun j i hi hb=>by
  have hd:=pX P (dq P n j) (nE P n j) (fun i hi=>(OT j i hi).1) hP3;have h1:=hd.2 i hi;have h2:(dq P n j).getD i 0=M.getD i 0:=eq_of_beq hb
  have h3:(dq P n (j+1)).getD i 0=M.getD i 0:=by
   show(P.foldl vI (dq P n j)).getD i 0=_
   omega
  rw[hasB,h3];simp
 have aX:∀j,(∀i,i<n→hasB M (dq P n (j+1)) i=hasB M (dq P n j) i)→∀i,i<n→hasB M (dq P n j) i=τ:=fun j hs i hi=>by
  have hco:Co n (fun i k=>(i,k)∈P) (fun i=>if hasB M (dq P n j) i=τ then 1 else 0):=fun a b ha hb hm=>by
   have SY:=zl P (dq P n j) (nE P n j) (fun i hi=>(OT j i hi).1) hP3 hm
   have key:∀{x y:Nat},x<n→y<n→((dq P n j).getD x 0=M.getD x 0→(dq P n (j+1)).getD y 0=M.getD y 0)→hasB M (dq P n j) x=τ→hasB M (dq P n j) y=τ:=fun {x y} hx hy himp hb=>by
    rw[←hs y hy,hasB,himp (eq_of_beq hb)];simp
   have k1:=key ha hb (fun e=>(SY (.inl e)).2);have k2:=key hb ha (fun e=>(SY (.inr e)).1);simp only
   by_cases q:hasB M (dq P n j) a=τ
   ·rw[if_pos q,if_pos (k1 q)]
   ·rw[if_neg q,if_neg (fun h=>q (k2 h))]
  obtain⟨h0,h1,h2⟩:=OY i hi;obtain⟨r,hr⟩:∃r:Nat,M.getD i 0=(r:Int):=⟨(M.getD i 0).toNat,by omega⟩
  rw[hr,Int.toNat_natCast] at h2;have kc:r<n:=by omega
  have aaN:hasB M (dq P n j) r=τ:=by
   have h3:=OT j r kc;rw[h2] at h3;rw[hasB,h2,beq_iff_eq];omega
  have e:=h.fin _ hco r i kc hi (by rw[h2,hr]);replace e:(if hasB M (dq P n j) r=τ then(1:Int) else 0)=(if hasB M (dq P n j) i=τ then 1 else 0):=e;rw[if_pos aaN] at e
  by_cases q:hasB M (dq P n j) i=τ
  ·exact q
  ·rw[if_neg q] at e;omega
 have xi:∀j,(∀i,i<n→hasB M (dq P n j) i=τ)∨j≤(Ω n).countP (hasB M (dq P n j)):=fun j=>by
  induction j with
  |zero=>exact .inr (Nat.zero_le _)
  |succ j ih=>
   rcases ih with ih|ih
   ·exact .inl fun i hi=>ku j i hi (ih i hi)
   ·by_cases hs:∀i,i<n→hasB M (dq P n (j+1)) i=hasB M (dq P n j) i
    ·exact .inl fun i hi=>ku j i hi (aX j hs i hi)
    ·refine .inr ?_
     have hex:∃i,i<n∧hasB M (dq P n (j+1)) i=τ∧hasB M (dq P n j) i=ρ:=by
      refine Classical.byContradiction fun kZ=>hs fun i hi=>?_
      cases q1:hasB M (dq P n j) i with
      |true=>exact ku j i hi q1
      |false=>
       cases q2:hasB M (dq P n (j+1)) i with
       |false=>rfl
       |true=>exact absurd ⟨i,hi,q2,q1⟩ kZ
     obtain⟨i0,Bz,q1,q2⟩:=hex
     have h1:(Ω n).countP (hasB M (dq P n j))≤(Ω n).countP (fun i=>hasB M (dq P n (j+1)) i && decide (i≠i0)):=by
      refine List.countP_mono_left fun i hi hb=>?_
      have hi:=List.mem_range.1 hi;rw[ku j i hi hb,Bool.true_and,decide_eq_true_eq];rintro rfl;rw[hb] at q2;cases q2
     have h2:=fG (fun i=>hasB M (dq P n (j+1)) i && decide (i≠i0)) (hasB M (dq P n (j+1))) i0 (by simp) q1 (fun i hi=>by simp[hi]) n;rw[if_pos Bz] at h2;omega
 have kg:∀i,i<n→hasB M (dq P n n) i=τ:=by
  rcases xi n with h1|h1
  ·exact h1
  ·intro i hi;have h2:(Ω n).countP (hasB M (dq P n n))=(Ω n).length:=Nat.le_antisymm List.countP_le_length (by rw[List.length_range];exact h1);exact(List.countP_eq_length.1 h2) i (List.mem_range.2 hi)
 refine List.ext_getElem (by rw[nE,h.len]) fun i h1 h2=>?_
 have hi:i<n:=by rw[nE] at h1;exact h1
 have e:(dq P n n).getD i 0=M.getD i 0:=eq_of_beq (kg i hi);rw[χ,χ,θ h1,θ h2] at e;exact e
def Ku (Vs:List VC) (d:D):Nat:=(fm 0 Vs (lE Vs d).1).toNat
def ub (Vs:List VC) (Es:List EC):List (Nat × Nat):=Es.map fun e=>(Ku Vs (e.1.1,e.1.2,0),Ku Vs (e.1.1,e.1.2,1))
section
variable {Vs:List VC} {Es:List EC}
theorem aG.stands (h:aG Vs Es) {i:Nat} {v:VC} (hv:Vs[i]? =ζ v) {d:D} (hd:d∈v.2.1.2.2.2):lE Vs d=(v.1,τ)∧fm 0 Vs v.1=(i:Int):=by
 refine⟨h.at (ω hv) hd,?_⟩
 have:=BM Vs 0 i v (dh h.rv) hv
 simpa using this
theorem aG.plc (h:aG Vs Es) {i:Nat} {v:VC} (hv:Vs[i]? =ζ v) {d:D} (hd:d∈v.2.1.2.2.2):Ku Vs d=i:=by
 obtain⟨h1,h2⟩:=h.stands hv hd;rw[Ku,h1,h2];simp
theorem aG.dart (h:aG Vs Es) {e:EC} (he:e∈Es) (s:Int) (hs:s=0∨s=1):∃i v,Vs[i]? =ζ v∧(e.1.1,e.1.2,s)∈v.2.1.2.2.2∧i<Vs.length:=by
 have h1:(e.1.1,e.1.2,s)∈ao Vs:=h.pm.mem_iff.2 ((jL Es [] _).2 (.inr ⟨e,he,by rcases hs with rfl|rfl;exact .inl rfl;exact .inr rfl⟩));obtain⟨v,hv,hr⟩:=Jat.1 h1;obtain⟨i,hi⟩:=List.getElem?_of_mem hv;exact⟨i,v,hi,hr,(ν.1 hi).1⟩
theorem aG.of_dart (h:aG Vs Es) {v:VC} (hv:v∈Vs) {d:D} (hd:d∈v.2.1.2.2.2):∃e∈Es,e.1=(d.1,d.2.1)∧(d.2.2=0∨d.2.2=1):=by
 have h1:=h.pm.mem_iff.1 (Jat.2 ⟨v,hv,hd⟩);rcases (jL Es [] d).1 h1 with h2|⟨e,he,h2|h2⟩
 ·cases h2
 ·exact⟨e,he,by rw[h2],.inl (by rw[h2])⟩
 ·exact⟨e,he,by rw[h2],.inr (by rw[h2])⟩
theorem IB (h:aG Vs Es):∀e∈ub Vs Es,e.1<Vs.length∧e.2<Vs.length:=fun p hp=>by
 obtain⟨e,he,rfl⟩:=Α.1 hp;obtain⟨i,v,hv,hd,hi⟩:=h.dart he 0 (.inl rfl);obtain⟨k,u,hu,lB,hk⟩:=h.dart he 1 (.inr rfl);rw[h.plc hv hd,h.plc hu lB];exact⟨hi,hk⟩
theorem RN (h:aG Vs Es) (f:Nat→Int):Co Vs.length (Sh Vs) f↔Co Vs.length (fun i k=>(i,k)∈ub Vs Es) f:=by
 constructor
 ·rintro hf i k hi hk hm;obtain⟨e,he,hp⟩:=Α.1 hm;obtain⟨a,v,hv,hd,ha⟩:=h.dart he 0 (.inl rfl);obtain⟨b,u,hu,lB,hb⟩:=h.dart he 1 (.inr rfl);rw[h.plc hv hd,h.plc hu lB] at hp;injection hp with e1 e2
  subst e1 e2;exact hf _ _ ha hb ⟨(e.1.1,e.1.2),⟨v,hv,_,hd,rfl⟩,⟨u,hu,_,lB,rfl⟩⟩
 ·rintro hf i k hi hk ⟨y,⟨v,hv,x,hx,rfl⟩,⟨u,hu,z,hz,ez⟩⟩;obtain⟨e,he,e1,hs⟩:=h.of_dart (ω hv) hx;obtain⟨e',Rs,e1',hs'⟩:=h.of_dart (ω hu) hz;have To:=h.plc hv hx;have XJ:=h.plc hu hz;obtain⟨x1,x2,x3⟩:=x;obtain⟨z1,z2,z3⟩:=z;simp only[Jba] at ez;obtain⟨rfl,rfl⟩:=ez;simp only at e1 hs hs';have hm:(Ku Vs (x1,x2,0),Ku Vs (x1,x2,1))∈ub Vs Es:=Α.2 ⟨e,he,by rw[e1]⟩;have hb:=IB h _ hm;have hfe:=hf _ _ hb.1 hb.2 hm;rcases hs with rfl|rfl<;>rcases hs' with rfl|rfl
  ·rw[To] at XJ;rw[XJ]
  ·rw[To,XJ] at hfe;exact hfe
  ·rw[To,XJ] at hfe;exact hfe.symm
  ·rw[To] at XJ;rw[XJ]
theorem Ju (h:aG Vs Es):uN Vs.length (fun i k=>(i,k)∈ub Vs Es) (dm Vs):=(mz Vs).of_iff (RN h)
theorem JT (h:aG Vs Es):dq (ub Vs Es) Vs.length Vs.length=dm Vs:=FN (Ju h) (IB h)
theorem VA (Vs:List VC):fg (dm Vs)≤Vs.length:=by
 unfold fg
 have:=List.countP_le_length (p:=cv (dm Vs)) (l:=Ω (dm Vs).length)
 rw[List.length_range,mx] at this;rw[mx];exact this
end
theorem IE {R:List D} (hn:R.Nodup) (f:D→Option D):∀k,k≤R.length→∀y,xI R k f y=if y∈R.take k then ζ (R.getD ((R.idxOf y+1) % R.length) (0,0,0)) else f y
 |0,_,y=>by simp[xI]
 |k+1,hk,y=>by
  have vT:k<R.length:=by omega
  have e:R.take (k+1)=R.take k++[R.getD k (0,0,0)]:=by
   rw[List.take_succ_eq_append_getElem vT,χ,θ vT];rfl
  have ei:R.idxOf (R.getD k (0,0,0))=k:=by
   rw[χ,θ vT];exact hn.idxOf_getElem k vT
  rw[xI]
  show(if y=R.getD k (0,0,0) then ζ (R.getD ((k+1) % R.length) (0,0,0)) else xI R k f y)=_
  rw[IE hn f k (by omega) y,e]
  by_cases q:y=R.getD k (0,0,0)
  ·rw[if_pos q,if_pos (Jan.2 (.inr (Jao.2 q))),q,ei]
  ·rw[if_neg q]
   by_cases q2:y∈R.take k
   ·rw[if_pos q2,if_pos (Jan.2 (.inl q2))]
   ·rw[if_neg q2,if_neg (fun h=>(Jan.1 h).elim q2 (fun h=>q (Jao.1 h)))]
def ee (R:List D) (y:D):D:=R.getD ((R.idxOf y+1) % R.length) (0,0,0)
theorem Bn:∀(Vs:List VC) (f:D→Option D),(ao Vs).Nodup→(∀y,y∉ao Vs→xJ Vs f y=f y)∧∀v∈Vs,∀y∈v.2.1.2.2.2,xJ Vs f y=ζ (ee v.2.1.2.2.2 y)
 |[],f,_=>⟨fun _ _=>rfl,by simp⟩
 |v::r,f,hn=>by
  have FZ:=hn;rw[eA,JaL] at hn;obtain⟨h1,h2⟩:=Bn r (xI v.2.1.2.2.2 v.2.1.2.2.2.length f) hn.2.1;have hg:=fun y=>IE hn.1 f v.2.1.2.2.2.length (Nat.le_refl _) y
  rw[List.take_length] at hg;constructor
  ·intro y hy;rw[eA,Jan,not_or] at hy;rw[xJ,h1 y hy.2,hg,if_neg hy.1]
  ·intro u hu y hy;rcases Η.1 hu with rfl|hu
   ·have SN:y∉ao r:=fun q=>hn.2.2 y hy y q rfl
    rw[xJ,h1 y SN,hg,if_pos hy];rfl
   ·rw[xJ];exact h2 u hu y hy
section
variable {Vs:List VC} {Es:List EC}
theorem Bt (hn:(ao Vs).Nodup) {v:VC} (hv:v∈Vs) {y:D} (hy:y∈v.2.1.2.2.2):gi Vs y=ζ (ee v.2.1.2.2.2 y):=(Bn Vs _ hn).2 v hv y hy
theorem vf (hn:(ao Vs).Nodup) {y:D} (hy:y∉ao Vs):gi Vs y=ε:=(Bn Vs _ hn).1 y hy
theorem cL {y:D}:y∈ao Vs↔∃v∈Vs,y∈v.2.1.2.2.2:=Jat
def iO (Vs:List VC) (y:D):D:=(gi Vs y).getD (0,0,0)
def fQ (Vs:List VC) (y:D):D:=iO Vs (dw y)
theorem ic (hn:(ao Vs).Nodup) {v:VC} (hv:v∈Vs) {y:D} (hy:y∈v.2.1.2.2.2):iO Vs y=ee v.2.1.2.2.2 y:=by rw[iO,Bt hn hv hy];rfl
theorem vg (hn:(ao Vs).Nodup) (y:D):gi Vs y=if y∈ao Vs then ζ (iO Vs y) else ε:=by
 by_cases h:y∈ao Vs
 ·obtain⟨v,hv,hy⟩:=cL.1 h;rw[if_pos h,iO,Bt hn hv hy];rfl
 ·rw[if_neg h,vf hn h]
theorem jQ {R:List D} {y:D} (hy:y∈R):ee R y∈R:=by
 have hl:=Jbk hy
 have:(R.idxOf y+1) % R.length<R.length:=Nat.mod_lt _ hl
 rw[ee,χ,θ this];exact List.getElem_mem _
theorem MC {R:List D} (hn:R.Nodup) {x y:D} (hx:x∈R) (hy:y∈R) (e:ee R x=ee R y):x=y:=by
 have hl:=Jbk hx;have h1:(R.idxOf x+1) % R.length<R.length:=Nat.mod_lt _ hl;have h2:(R.idxOf y+1) % R.length<R.length:=Nat.mod_lt _ hl;unfold ee at e;rw[χ,χ,θ h1,θ h2] at e;have e1:(R.idxOf x+1) % R.length=(R.idxOf y+1) % R.length:=(List.getElem_inj hn).1 e;have i1:=List.idxOf_lt_length_of_mem hx;have i2:=List.idxOf_lt_length_of_mem hy
 have e2:R.idxOf x=R.idxOf y:=by
  by_cases q1:R.idxOf x+1=R.length
  ·rw[q1,Nat.mod_self] at e1
   by_cases q2:R.idxOf y+1=R.length
   ·omega
   ·rw[JbE (show R.idxOf y+1<R.length by omega)] at e1;omega
  ·rw[JbE (show R.idxOf x+1<R.length by omega)] at e1
   by_cases q2:R.idxOf y+1=R.length
   ·rw[q2,Nat.mod_self] at e1;omega
   ·rw[JbE (show R.idxOf y+1<R.length by omega)] at e1;omega
 have g1:R[R.idxOf x]'i1=x:=List.getElem_idxOf i1;have g2:R[R.idxOf y]'i2=y:=List.getElem_idxOf i2;rw[←g1,←g2];exact(List.getElem_inj hn).2 e2
theorem wX (hn:(ao Vs).Nodup):Pm (iO Vs) (ao Vs):=by
 have key:∀{v:VC},v∈Vs→∀{x:D},x∈v.2.1.2.2.2→∀{u:VC},u∈Vs→x∈u.2.1.2.2.2→u.2.1.2.2.2=v.2.1.2.2.2:=by
  intro v hv x hx u hu uU;have e1:=Bt hn hv hx;clear e1;revert hv hu;generalize Vs=Ws at hn
  induction Ws with
  |nil=>intro h;cases h
  |cons z r ih=>
   intro h1 h2;rw[eA,JaL] at hn;rcases Η.1 h1 with e1|k1
   ·rcases Η.1 h2 with e2|k2
    ·rw[e1,e2]
    ·exact(hn.2.2 x (e1▸hx) x (Jat.2 ⟨u,k2,uU⟩) rfl).elim
   ·rcases Η.1 h2 with e2|k2
    ·exact(hn.2.2 x (e2▸uU) x (Jat.2 ⟨v,k1,hx⟩) rfl).elim
    ·exact ih hn.2.1 k1 k2
 refine⟨hn,fun x hx=>?_,fun x hx y hy e=>?_⟩
 ·obtain⟨v,hv,hx⟩:=cL.1 hx;rw[ic hn hv hx];exact cL.2 ⟨v,hv,jQ hx⟩
 ·obtain⟨v,hv,hx⟩:=cL.1 hx;obtain⟨u,hu,hy⟩:=cL.1 hy;rw[ic hn hv hx,ic hn hu hy] at e;have h1:=jQ hx;have h2:=jQ hy;have e2:=key hv h1 hu (e▸h2);rw[e2] at e hy;exact MC (lu hn hv) hx hy e
theorem lD (d:D):dw (dw d)=d:=by
 obtain⟨a,b,c⟩:=d
 show(a,b,1 - (1 - c))=(a,b,c)
 rw[show(1:Int) - (1 - c)=c by omega]
theorem aG.mem (h:aG Vs Es) (d:D):d∈ao Vs↔∃e∈Es,e.1=(d.1,d.2.1)∧(d.2.2=0∨d.2.2=1):=by
 rw[h.pm.mem_iff,jL];constructor
 ·rintro (q|⟨e,he,rfl|rfl⟩)
  ·cases q
  ·exact⟨e,he,rfl,.inl rfl⟩
  ·exact⟨e,he,rfl,.inr rfl⟩
 ·rintro⟨e,he,e1,q⟩;obtain⟨a,b,c⟩:=d;refine .inr ⟨e,he,?_⟩;simp only at e1 q;rcases q with rfl|rfl
  ·exact .inl (by rw[e1])
  ·exact .inr (by rw[e1])
theorem aG.oth (h:aG Vs Es) {d:D} (hd:d∈ao Vs):dw d∈ao Vs:=by
 obtain⟨e,he,e1,q⟩:=(h.mem d).1 hd;exact(h.mem _).2 ⟨e,he,e1,by show 1 - d.2.2=0∨1 - d.2.2=1;omega⟩
theorem aG.ohs (h:aG Vs Es) (d:D):dw d∈ao Vs↔d∈ao Vs:=⟨fun q=>lD d▸h.oth q,h.oth⟩
theorem aG.phi (h:aG Vs Es):Pm (fQ Vs) (ao Vs):=
 ⟨h.once,fun x hx=>(wX h.once).cl _ (h.oth hx),fun x hx y hy e=>by
  have:=(wX h.once).inj _ (h.oth hx) _ (h.oth hy) e
  rw[←lD x,this,lD]⟩
theorem aG.wfS (h:aG Vs Es) (hg:mG Vs Es) {d:D} (hd:d∈ao Vs):wfS d:=by
 obtain⟨v,hv,hr⟩:=cL.1 hd;obtain⟨e,he,e1,q⟩:=(h.mem d).1 hd;exact⟨hg.v v hv d hr,by omega,by omega⟩
theorem aG.l80 (h:aG Vs Es):(ao Vs).length≤80:=by rw[h.len];have:=h.e40;omega
def kU (Vs:List VC) (x:D):List D:=if x∈ao Vs then l9 (fQ Vs) x 80 x else[]
theorem JR (h:aG Vs Es) (x:D):(kU Vs x).length≤80:=by
 rw[kU]
 by_cases hx:x∈ao Vs
 ·obtain⟨p,hp,a8⟩:=h.phi.per hx
  have:=h.l80
  rw[if_pos hx,pI hp (by omega),IF];omega
 ·rw[if_neg hx];exact Nat.zero_le _
theorem yt.formed {S:List D} (h:aG Vs Es) (hg:mG Vs Es) (k:yt (gi Vs) S):S.length=(ao Vs).length:=by
 have hm:∀x,x∈S↔x∈ao Vs:=fun x=>by
  constructor
  ·intro hx;have h1:=(k.2.2 x (k.2.1 x hx)).1 hx;rw[vg h.once] at h1
   by_cases q:x∈ao Vs
   ·exact q
   ·rw[if_neg q] at h1;cases h1
  ·intro hx
   refine(k.2.2 x (h.wfS hg hx).1).2 ?_
   rw[vg h.once,if_pos hx];rfl
 exact Nat.le_antisymm (zH k.1 fun x hx=>(hm x).1 hx) (zH h.once fun x hx=>(hm x).2 hx)
end
def qt (L:List EC):List D:=L.flatMap fun e=>[(e.1.1,e.1.2,0),(e.1.1,e.1.2,1)]
theorem BW (e:EC) (L:List EC):qt (e::L)=(e.1.1,e.1.2,0)::(e.1.1,e.1.2,1)::qt L:=rfl
theorem Q7 (L M:List EC):qt (L++M)=qt L++qt M:=by simp[qt,List.flatMap_append]
theorem OF (L:List EC) (j:Nat) (x:EC) (h:L[j]? =ζ x):qt (L.take (j+1))=qt (L.take j)++[(x.1.1,x.1.2,0),(x.1.1,x.1.2,1)]:=by
 rw[Jbc,h,Q7];rfl
theorem Ir:∀L:List EC,(qt L).length=2*L.length
 |[]=>rfl
 |e::r=>by
  rw[BW,JaH,JaH,Ir r,JaH];omega
theorem Ik (L:List EC) (d:D):d∈qt L↔∃e∈L,e.1=(d.1,d.2.1)∧(d.2.2=0∨d.2.2=1):=by
 obtain⟨a,b,c⟩:=d;unfold qt;rw[Jat];constructor
 ·rintro⟨e,he,h⟩
  refine⟨e,he,?_⟩
  simp only[Η,Jba,List.mem_nil_iff,or_false] at h;rcases h with⟨rfl,rfl,rfl⟩|⟨rfl,rfl,rfl⟩
  ·exact⟨rfl,.inl rfl⟩
  ·exact⟨rfl,.inr rfl⟩
 ·rintro⟨e,he,h1,h2⟩
  refine⟨e,he,?_⟩
  simp only[Η,Jba,List.mem_nil_iff,or_false];simp only at h1 h2;rw[h1];rcases h2 with rfl|rfl
  ·exact .inl ⟨rfl,rfl,rfl⟩
  ·exact .inr ⟨rfl,rfl,rfl⟩
theorem aG.ds {Vs:List VC} {Es:List EC} (h:aG Vs Es) (d:D):d∈qt Es↔d∈ao Vs:=by rw[Ik,h.mem]
theorem tV {α:Type} {f g:α→α} {L:List α} (h:Pm f L) (e:∀x∈L,f x=g x) {x:α} (hx:x∈L):∀k,fR f k x=fR g k x
 |0=>rfl
 |k+1=>by rw[dp,dp,←tV h e hx k,e _ (h.it hx k)]
theorem CS {α:Type} {f g:α→α} {L:List α} (h:Pm f L) (e:∀x∈L,f x=g x) {x:α} (hx:x∈L) (y:α):Rl f x y↔Rl g x y:=
 ⟨fun⟨i,q⟩=>⟨i,(tV h e hx i).symm.trans q⟩,fun⟨i,q⟩=>⟨i,(tV h e hx i).trans q⟩⟩
theorem jW.congr {α:Type} {f g:α→α} {L P:List α} (h:Pm f L) (e:∀x∈L,f x=g x) (hP:jW f L P):jW g L P:=
 ⟨hP.nd,hP.sub,fun x hx=>by
  obtain⟨p,hp,r⟩:=hP.all x hx;exact⟨p,hp,(CS h e (hP.sub p hp) x).1 r⟩,fun p hp q hq r=>hP.one p hp q hq ((CS h e (hP.sub p hp) q).2 r)⟩
def bF (Vs:List VC):Nat:=(Vs.filter fun v=>decide (v.2.1.2.2.2=[])).length
section
variable {Vs:List VC} {Es:List EC}
theorem aG.ends (h:aG Vs Es) {e:EC} (he:e∈Es):(e.1.1,e.1.2,(0:Int))∈ao Vs∧(e.1.1,e.1.2,(1:Int))∈ao Vs:=
 ⟨(h.mem _).2 ⟨e,he,rfl,.inl rfl⟩,(h.mem _).2 ⟨e,he,rfl,.inr rfl⟩⟩
def kp (Vs:List VC) (Es:List EC):Nat:=(js (fQ Vs) 80 (qt Es) []).length
theorem iK (h:aG Vs Es):∃P,jW (fQ Vs) (ao Vs) P∧kp Vs Es=P.length:=by
 obtain⟨P,hP,e⟩:=IX h.phi h.l80 (qt Es) h.ds;exact⟨P,hP,by rw[kp,e,List.length_map]⟩
end
section
open Go.RowKit Go.Shelf Go.Lib Go.Sort
def lf (x:D):List ψ:=[J x.1,J x.2.1,J x.2.2]
end
def qg (L:List VC):List D:=L.flatMap (·.2.1.2.2.2)
theorem Qn (j:Nat):lL (j+1)=lL j++[(j:Int)]:=by simp[lL,List.range_succ]
theorem Jp:(η.info? 3).map (fun i=>(i.zero,i.size,i.bytes))=ζ (ζ (J 0),1,8):=by kernel_rfl
theorem RowsIn.push {P:Program} {α:Type} {W:ο} {lo:Nat} {UR UE:Υ} {s:Nat} {f:α→List ψ} {A:Option Κ} {n c:Nat} {X:List (Rw α)} (h:RowsIn W lo UR UE s f A n c X) (x:Rw α) (hx:W.ownsRow lo UE s (kX x) x.2.2.length (ah f x.2.2)) (hd:∀y∈X,∀a b,y.1=ζ a→x.1=ζ b→a.block≠b.block)
 (t ty:Υ) (i:TypeInfo) (z:ψ) (ht:P.underlying t=ζ (.slice UR)) (hi:P.info? UR=ζ i) (hz:i.zero=ζ z) (fK:i.size=1) (vA:i.bytes=24) (vK:z.cells.size=1)
 (hT:UR≠UE) (hn:n≤1000000) (fw:lo≤W.heap.size) (A1:Option Κ) (c1:Nat) (hr:bg W W.heap.size 1 A1 1 c1 [kX x]):
 ∃A' c' W',(JaY #[t,t] ty #[γ A n c,γ A1 1 c1]).run P W=.ok (γ A' (n+1) c') W'∧RowsIn W' lo UR UE s f A' (n+1) c' (X++[x])∧σ lo W W'∧W.grownBy W' (Ο A n c).ownBlock:=by
 obtain⟨a1,rfl⟩:∃a1,A1=ζ a1:=by
  cases A1 with
  |none=>have:=(hr.none_ rfl).1;omega
  |some a1=>exact⟨a1,rfl⟩
 obtain⟨v',W2,bV,gh,hg,FZ,hb⟩:=run_append_own_at (P:=P) W lo t ty UR i z 1 24 ht hi hz fK vA vK (by decide) _ n _ h.row a1 1 c1 _ hr.len (hr.cell a1 rfl) (by simp[kX,Value.oneCell']) (by unfold maxLen;omega) (by omega) fw;have hk:∀k,(Ο A n c).ownBlock=ζ k→lo≤k:=fun k hk=>(h.row.lt k hk).1
 obtain⟨A',c',rfl,_⟩:=bg.of_own gh;have e:ah Uw X++[kX x]=ah Uw (X++[x]):=by rw[bY];rfl
 rw[e] at gh
 have keep:∀y:Rw α,W.ownsRow lo UE s (kX y) y.2.2.length (ah f y.2.2)→W2.ownsRow lo UE s (kX y) y.2.2.length (ah f y.2.2):=fun y hy=>hy.kept hg (by
  cases hv:(kX y).ownBlock with
  |none=>exact .inl rfl
  |some g=>exact .inr fun q=>jM h.row hy hT q.symm hv)
 refine⟨A',c',W2,bV,⟨gh,by simp[h.len],fun y hy=>?_,fun i j u v a b ur hu hv PF Bq=>?_⟩,(Θ lo W).grown hg fw hk,hg⟩
 ·rcases Jan.1 hy with hy|hy
  ·exact keep y (h.one y hy)
  ·obtain rfl:=Jao.1 hy;exact keep y hx
 ·have get:∀(i:Nat) (u:Rw α),(X++[x])[i]? =ζ u→X[i]? =ζ u∨(i=X.length∧u=x):=fun i u hu=>by
   by_cases hi:i<X.length
   ·rw[List.getElem?_append_left hi] at hu;exact .inl hu
   ·rw[List.getElem?_append_right (by omega)] at hu;have h1:=(ν.1 hu).1;simp at h1;have e0:i - X.length=0:=by omega
    rw[e0] at hu;exact .inr ⟨by omega,by simpa using hu.symm⟩
  rcases get i u hu with qY|⟨ei,eu⟩
  ·rcases get j v hv with Lo|⟨ej,ev⟩
   ·exact h.ne i j u v a b ur qY Lo PF Bq
   ·exact hd u (ω qY) a b PF (by rw[←ev];exact Bq)
  ·rcases get j v hv with Lo|⟨ej,ev⟩
   ·exact fun q=>hd v (ω Lo) b a Bq (by rw[←eu];exact PF) q.symm
   ·omega
theorem OX (L:List D):ah lf L=aA L:=by
 induction L with
 |nil=>rfl
 |cons x L ih=>
  show lf x++ah lf L=_;rw[ih];rfl
theorem Fv {W W':ο} {lo k n:Nat} {e:Υ} {v:ψ} {xs:List ψ} (h:W.ownsRow lo e k v n xs) (hb:∀g,v.ownBlock=ζ g→W'.heap[g]? =W.heap[g]?):W'.ownsRow lo e k v n xs:=by
 refine⟨h.1,?_⟩
 rcases h.2 with q|⟨g,cap,cur,q1,q2,q3,q4⟩
 ·exact .inl q
 ·exact .inr ⟨g,cap,cur,q1,q2,(hb g (by rw[q1];rfl)).trans q3,q4⟩
theorem RowsIn.at_ {α:Type} {W W':ο} {lo:Nat} {UR UE:Υ} {s:Nat} {f:α→List ψ} {A:Option Κ} {n c:Nat} {X:List (Rw α)} (h:RowsIn W lo UR UE s f A n c X)
 (hb:∀g cs t fr,lo≤g→W.heap[g]? =ζ (.cells cs t fr)→(t=UR∨t=UE)→W'.heap[g]? =W.heap[g]?):RowsIn W' lo UR UE s f A n c X:=by
 refine⟨Fv h.row fun g hg=>?_,h.len,fun x hx=>Fv (h.one x hx) fun g hg=>?_,h.ne⟩
 ·rcases h.row.2 with⟨q,_⟩|⟨g',cap,cur,q1,q2,q3,q4⟩
  ·rw[q] at hg;cases hg
  ·rw[q1] at hg;obtain rfl:g'=g:=Μ hg;exact hb g' cur UR (0,0) q2 q3 (.inl rfl)
 ·rcases (h.one x hx).2 with⟨q,_⟩|⟨g',cap,cur,q1,q2,q3,q4⟩
  ·rw[q] at hg;cases hg
  ·rw[q1] at hg;obtain rfl:g'=g:=Μ hg;exact hb g' cur UE (0,0) q2 q3 (.inr rfl)
section
attribute [local go_sem] Oper.semAt_some
theorem Kept.gr {S:Nat→Prop} {V W W':ο} {r:Option Nat} (h:Kept S V W) (hg:W.grownBy W' r) (hr:∀k,r=ζ k→S k):Kept S V W':=
 h.trans ⟨hg.os,hg.tape,hg.output,hg.size,fun i hi hn=>hg.block i hi (fun e=>hn (hr i e.symm))⟩
theorem yS:(η.info? 57).map (fun i=>(i.zero,i.size,i.bytes))=ζ (ζ (γ ε 0 0),1,24):=by kernel_rfl
end
section
variable {Vs:List VC} {Es:List EC}
theorem TN (Vs:List VC):qg Vs=ao Vs:=rfl
end
def On (L:List D) (d:D) (p:Nat):D:=if d∈L then L.getD ((L.idxOf d+p) % L.length) (0,0,0) else(0,0,0)
def tk (w:ο) (x:D) (ok:Bool) (e:Ending) (w':ο):Prop:=
 e=.returned (.tuple #[.agg #[J x.1,J x.2.1,J x.2.2],.bool ok])∧σ w.heap.size w w'
def rR (L:List D) (d:D):D:=On L d 1
theorem Ex (A:Option Κ) (n c:Nat) (L:List D) (d:D) (w:ο) (h:bg w w.heap.size 3 A n c (aA L)) (hn:n≤1000000):
 Calls η 108 #[γ A n c,.agg #[J d.1,J d.2.1,J d.2.2]] w (tk w (rR L d) (decide (d∈L))):=by
 have HI:=qh (fun W h=>oN A n c L d W h (by omega));have H:=qh h;have hl:=h.dlen
 by_cases hd:d∈L
 ·obtain⟨e1,e2⟩:=j3 hd;rw[e1] at HI;obtain⟨k,gk⟩:=aB (L.idxOf d);have PH:k<n:=by omega
  have hs:rR L d=L.getD ((k+1) % n) (0,0,0):=by rw[rR,On,if_pos hd,gk,hl]
  rw[gk] at HI e2;obtain⟨b,off,rfl,hb,hc⟩:=h.darts (by omega);have hj:(k+1) % n<n:=Nat.mod_lt _ (by omega);have Fq:((k:Int)+1) % (n:Int)=(((k+1) % n:Nat):Int):=by rw[Int.natCast_emod,Int.natCast_add];rfl
  obtain⟨j,gj⟩:=aB ((k+1) % n);rw[gj] at hs hj Fq;obtain⟨c1,c2,c3⟩:=hc j (by omega);obtain⟨x,gx⟩:=aB (L.getD j (0,0,0));rw[gx] at hs c1 c2 c3;rw[hs,decide_eq_true hd];have C1:=qh c1;have C2:=qh c2;have C3:=qh c3;clear hs gx gj hc hd gk e1 e2 h hl c1 c2 c3;go_enter Tryz.func108,Tryz.ntmps108
  go_wp2_with (first
   |(go_at_call 33;refine(HI.out _ (by exact H.out.up (cr _ _ _) (by simp<;>omega))).mono ?_;rintro e w2 ⟨rfl,aP⟩
     have HB:=qh (cW aP);have d1:=(HB.out.cell (p:=⟨b,off+j*3,ε⟩) hb).trans C1.out;have d2:=(HB.out.cell (p:=⟨b,off+j*3+1,ε⟩) hb).trans C2.out;have d3:=(HB.out.cell (p:=⟨b,off+j*3+2,ε⟩) hb).trans C3.out;have hz:=(Whole.new_ (w.alloc (.cells #[J d.1,J d.2.1,J d.2.2] 32)) 32 [J 0,J 0,J 0]).below aP;simp only[JbF] at hz;have z0:=hz.cell (i:=0) rfl;have z1:=hz.cell (i:=1) rfl;have z2:=hz.cell (i:=2) rfl;have y0:=hz.free 0;have y1:=hz.free 1;have y2:=hz.free 2;clear aP hz))
  exact bodyPost_ret (v:=.tuple #[.agg #[J x.1,J x.2.1,J x.2.2],.bool τ]) (by simp[results,Tryz.results108,go_sem,z0,z1,z2]) rfl ⟨rfl,((HB.out.setCell (by simp) _).setCell (by simp) _).setCell (by simp) _⟩
 ·have hs:rR L d=(0,0,0):=by rw[rR,On,if_neg hd]
  rw[lK hd] at HI;rw[hs,decide_eq_false hd];clear hs h hd hl;go_enter Tryz.func108,Tryz.ntmps108
  go_wp2_with (first
   |(go_at_call 33;refine(HI.out _ (by exact H.out.up (cr _ _ _) (by simp<;>omega))).mono ?_;rintro e w2 ⟨rfl,aP⟩
     have HB:=qh (cW aP);have hz:=(Whole.new_ (w.alloc (.cells #[J d.1,J d.2.1,J d.2.2] 32)) 32 [J 0,J 0,J 0]).below aP;simp only[JbF] at hz;have z0:=hz.cell (i:=0) rfl;have z1:=hz.cell (i:=1) rfl;have z2:=hz.cell (i:=2) rfl;have y0:=hz.free 0;have y1:=hz.free 1;have y2:=hz.free 2;clear aP hz))
  exact bodyPost_ret (v:=.tuple #[.agg #[J 0,J 0,J 0],.bool ρ]) (by simp[results,Tryz.results108,go_sem,z0,z1,z2]) rfl ⟨rfl,((HB.out.setCell (by simp) _).setCell (by simp) _).setCell (by simp) _⟩
def othW (d:D):D:=(d.1,d.2.1,Jaw.wrap (1 - d.2.2))
theorem RQ {d:D} (h:0≤d.2.2∧d.2.2≤1):othW d=dw d:=by
 unfold othW dw;rw[IntWalk.i64_in (1 - d.2.2) (by omega)]
theorem LJ {d:D} (h1:-9223372036854775808≤d.2.2∧d.2.2≤9223372036854775807) (h:¬(d.2.2=0∨d.2.2=1)):¬((othW d).2.2=0∨(othW d).2.2=1):=by
 show ¬(Jaw.wrap (1 - d.2.2)=0∨Jaw.wrap (1 - d.2.2)=1)
 by_cases q:d.2.2= -9223372036854775808
 ·rw[q];decide
 ·rw[IntWalk.i64_left];unfold wrap64;omega
section
variable {Vs:List VC} {Es:List EC}
theorem aG.othW (h:aG Vs Es) {d:D} (hb:-9223372036854775808≤d.2.2∧d.2.2≤9223372036854775807):(othW d∈ao Vs↔d∈ao Vs)∧(d∈ao Vs→othW d=dw d):=by
 have hs:∀{x:D},x∈ao Vs→x.2.2=0∨x.2.2=1:=fun hx=>by
  obtain⟨e,_,_,q⟩:=(h.mem _).1 hx;exact q
 by_cases q:d.2.2=0∨d.2.2=1
 ·have e:=RQ (d:=d) (by omega);rw[e];exact⟨h.ohs d,fun _=>rfl⟩
 ·exact⟨⟨fun hx=>(LJ hb q (hs hx)).elim,fun hx=>(q (hs hx)).elim⟩,fun hx=>(q (hs hx)).elim⟩
theorem Nt (h:aG Vs Es) (x:D):(x∈(eP Vs (lE Vs x).1).1.2.1.2.2.2↔x∈ao Vs)∧rR (eP Vs (lE Vs x).1).1.2.1.2.2.2 x=iO Vs x∧(lE Vs x).2=decide (x∈ao Vs):=by
 by_cases hx:x∈ao Vs
 ·obtain⟨v,hv,hr⟩:=cL.1 hx;have e1:=h.at hv hr
  have e2:eP Vs v.1=(v,τ):=by
   have hn:=dh h.rv;clear h hx e1 hr
   induction Vs with
   |nil=>cases hv
   |cons u r ih=>
    rw[List.map_cons,List.nodup_cons] at hn;rcases Η.1 hv with rfl|hv
    ·exact sE _ _ _ _ _ rfl
    ·have:¬u.1=v.1:=fun e=>hn.1 (e▸Α.2 ⟨v,hv,rfl⟩)
     exact(wP _ _ _ _ _ this).trans (ih hv hn.2)
  rw[e1]
  show(x∈(eP Vs v.1).1.2.1.2.2.2↔_)∧rR (eP Vs v.1).1.2.1.2.2.2 x=_∧τ=_
  rw[e2,ic h.once hv hr,decide_eq_true hx]
  refine⟨⟨fun _=>hx,fun _=>hr⟩,?_,rfl⟩
  show On _ _ 1=_;rw[On,if_pos hr];rfl
 ·have e1:lE Vs x=((0,0),ρ):=by
   unfold lE;rw[List.find?_eq_none.2 (fun v hv q=>hx (cL.2 ⟨v,hv,of_decide_eq_true q⟩))]
  have e2:eP Vs (0,0)=(zV,ρ):=by
   unfold eP KR
   rw[List.find?_eq_none.2 (fun v hv q=>by
    have h1:=((fS _ _).1 h.rv).1 v.1 (Α.2 ⟨v,hv,rfl⟩);have q1:v.1=(0,0):=of_decide_eq_true q;rw[q1] at h1;revert h1;decide)]
  rw[e1]
  show(x∈(eP Vs (0,0)).1.2.1.2.2.2↔_)∧rR (eP Vs (0,0)).1.2.1.2.2.2 x=_∧ρ=_
  rw[e2,iO,vf h.once hx,decide_eq_false hx];exact⟨⟨fun q=>(by cases q),fun q=>(hx q).elim⟩,rfl,rfl⟩
end
def abB:ψ→Nat
 |γ _ n _=>n
 |_=>0
theorem Ow.cell_ {w W:ο} {B size n g:Nat} {e:Υ} {v:ψ} {xs:List ψ} (h:Ow w B e size v n xs W) (bj:ζ g≠v.ownBlock) (hg:w.heap.size≤g) (i:Nat) (u:ψ):Ow w B e size v n xs (W.setCell ⟨g,i,ε⟩ u):=
 ⟨aT h.own bj u,h.below.setCell (p:=⟨g,i,ε⟩) hg u,h.lo,by simpa [World.setCell] using h.hi⟩
theorem LH {f:D→D} (x:D) (j:Nat):lA f x (j+1)=lA f x j++[fR f j x]:=by
 unfold lA;rw[List.range_succ,List.map_append];rfl
structure PR (w:ο) (lo:Nat) (At:Option Κ) (ct:Nat) (T:List D) (Al:Option Κ) (cl:Nat) (L:List D) (Ao:Option Κ) (co:Nat) (X:List (Rw D)) (W:ο):Prop where
 ow:Ow w lo 32 3 (γ At T.length ct) T.length (aA T) W
 l:W.ownsRow lo 32 3 (γ Al L.length cl) L.length (aA L)
 r:RowsIn W lo 57 32 3 lf Ao X.length co X
 nl:∀g,(Ο Al L.length cl).ownBlock=ζ g→(Ο At T.length ct).ownBlock≠ζ g
 nx:∀x∈X,∀g,(kX x).ownBlock=ζ g→(Ο At T.length ct).ownBlock≠ζ g
section
variable {w W W':ο} {lo:Nat} {At:Option Κ} {ct:Nat} {T:List D} {Al:Option Κ} {cl:Nat} {L:List D} {Ao:Option Κ} {co:Nat} {X:List (Rw D)}
theorem PR.up (h:PR w lo At ct T Al cl L Ao co X W) (hb:σ W.heap.size W W'):PR w lo At ct T Al cl L Ao co X W':=
 ⟨h.ow.up hb,bo h.l hb,h.r.up hb,h.nl,h.nx⟩
theorem PR.bl (h:PR w lo At ct T Al cl L Ao co X W) (hb:σ W.heap.size W W'):PR w lo At ct T Al cl L Ao co X W':=h.up hb
theorem PR.al (h:PR w lo At ct T Al cl L Ao co X W) (o:Obj):PR w lo At ct T Al cl L Ao co X (W.alloc o):=h.up (az W o)
theorem PR.dr (h:PR w lo At ct T Al cl L Ao co X W):PR w lo At ct T Al cl L Ao co X W.drew:=h.up ((Θ _ _).drew)
theorem PR.out (h:PR w lo At ct T Al cl L Ao co X W) (A9:Option Κ) (c9:Nat) (F:List D) (hf:W.ownsRow lo 32 3 (γ A9 F.length c9) F.length (aA F)) (hd:∀y∈X,∀a b,y.1=ζ a→A9=ζ b→a.block≠b.block)
 (ht:∀g,(Ο A9 F.length c9).ownBlock=ζ g→(Ο At T.length ct).ownBlock≠ζ g) (hn:X.length≤1000000) (A1:Option Κ) (c1:Nat) (hr:bg W W.heap.size 1 A1 1 c1 [γ A9 F.length c9]):
 ∃A' c' W',(JaY #[86,86] 86 #[γ Ao X.length co,γ A1 1 c1]).run η W=.ok (γ A' (X.length+1) c') W'∧PR w lo At ct T Al cl L A' c' (X++[(A9,c9,F)]) W'∧σ lo W W':=by
 obtain⟨iR,hiR,hr0,GS,oJ⟩:=aW yS;obtain⟨A',c',W2,bV,hR,hb,hg⟩:=h.r.push (P:=η) ((A9,c9,F):Rw D) (by rw[OX];exact hf) hd 86 86 iR _ Tryz.underlying86 hiR hr0 GS oJ rfl (by decide) hn h.ow.hi A1 c1 hr
 have hk:∀{v:ψ} {n:Nat} {xs:List ψ},W.ownsRow lo 32 3 v n xs→W2.ownsRow lo 32 3 v n xs:=fun {v n xs} ho=>ho.kept hg (by
  cases hv:v.ownBlock with
  |none=>exact .inl rfl
  |some g=>exact .inr fun q=>jM h.r.row ho (by decide) q.symm hv)
 have fw:∀k,(Ο Ao X.length co).ownBlock=ζ k→lo≤k:=fun k hk=>(h.r.row.lt k hk).1
 refine⟨A',c',W2,bV,⟨⟨hk h.ow.own,h.ow.below.grown hg h.ow.below.size (fun k e=>Λ h.ow.lo (fw k e)),h.ow.lo,Λ h.ow.hi hg.size⟩,hk h.l,?_,h.nl,fun x hx=>?_⟩,hb⟩
 ·rw[Ε];exact hR
 ·rcases Jan.1 hx with hx|hx
  ·exact h.nx x hx
  ·obtain rfl:=Jao.1 hx;exact ht
theorem PR.tell (h:PR w lo At ct T Al cl L Ao co X W) {A9:Option Κ} {c9:Nat} {F:List D} (hx:(A9,c9,F)∈X) (hn:T.length+F.length≤1000000):
 ∃A' c' W',(JaY #[57,57] 57 #[γ At T.length ct,γ A9 F.length c9]).run η W=.ok (.slice A' (T++F).length c') W'∧PR w lo A' c' (T++F) Al cl L Ao co X W'∧σ lo W W':=by
 obtain⟨i0,Bz,qJ,ly,kK⟩:=aW ju
 have hr:bg W W.heap.size 3 A9 F.length c9 (aA F):=by
  have:=aK (h.r.one _ hx)
  rw[OX] at this;exact this
 obtain⟨v,W2,bV,iC,hb,hg,ho⟩:=Ow.app2 (P:=η) 57 57 32 i0 _ 3 24 lo Tryz.underlying57 Bz qJ ly kK rfl (by decide) _ T.length _ h.ow _ A9 F.length c9 (aA F) hr (im F) (by unfold maxLen;omega) (by omega);rw[←fM,←Ε] at iC;obtain⟨A',c',rfl,-⟩:=iC.rds
 have wN:∀{u:ψ} {n:Nat} {xs:List ψ},W.ownsRow lo 32 3 u n xs→(∀g,u.ownBlock=ζ g→(Ο At T.length ct).ownBlock≠ζ g)→∀g,u.ownBlock=ζ g→(Ο A' (T++F).length c').ownBlock≠ζ g:=fun {u n xs} hu bj g iZ q=>by
  rcases ho with e|e
  ·exact bj g iZ (e▸q)
  ·rw[e] at q
   have:=(hu.lt g iZ).2
   have:=Μ q
   omega
 refine⟨A',c',W2,bV,⟨iC,h.l.kept hg ?_,h.r.far hg (fun g e q=>jM h.r.row h.ow.own (by decide) q e) (fun x hx g e q=>h.nx x hx g q e),wN h.l h.nl,fun x hx=>wN (h.r.one x hx) (h.nx x hx)⟩,hb⟩
 cases hv:(Ο Al L.length cl).ownBlock with
 |none=>exact .inl rfl
 |some g=>exact .inr fun q=>h.nl g hv q.symm
end
structure Qk (lo:Nat) (A9:Option Κ) (c9:Nat) (F:List D) (W:ο):Prop where
 own:W.ownsRow lo 32 3 (γ A9 F.length c9) F.length (aA F)
theorem Qk.bl {lo:Nat} {A9:Option Κ} {c9:Nat} {F:List D} {W W':ο} (h:Qk lo A9 c9 F W) (hb:σ W.heap.size W W'):Qk lo A9 c9 F W':=⟨bo h.own hb⟩
structure ae8 (n:Nat) (Vs:List VC):Prop where
 n:n≤1000000
 r:∀x∈Vs,x.2.1.2.1≤1000000
 s:∀v∈Vs,∀d∈v.2.1.2.2.2,wfS d
 k:∀S,yt (gi Vs) S→S.length≤1000000
 l:(qg Vs).length≤1000000
theorem aG.pre {A:Option Κ} {n c:Nat} {Vs:List VC} {B:Option Κ} {m k:Nat} {Es:List EC} {w:ο} (hf:aG Vs Es) (h:bz w A n c Vs B m k Es) (hg:mG Vs Es):ae8 n Vs:=by
 have h8:=hf.l80;obtain⟨h1,h2,h3⟩:=hf.small h;exact⟨by omega,fun x hx=>by have:=h3 x hx;omega,fun v hv d hd=>hf.wfS hg (cL.2 ⟨v,hv,hd⟩),fun S hS=>by have:=hS.formed hf hg;omega,by rw[TN];omega⟩
def Ek (v:VC):Bool:=decide (v.2.1.2.2.2=[])
theorem xp {Vs:List VC} {j:Nat} {v:VC} (h:Vs[j]? =ζ v):((Vs.take (j+1)).filter Ek).length=((Vs.take j).filter Ek).length+if Ek v then 1 else 0:=by
 rw[Jbc,h,List.filter_append,Ε];congr 1;simp only[Option.toList_some,List.filter_cons,List.filter_nil];split<;>rfl
theorem wA (Vs:List VC):bF Vs≤Vs.length:=List.length_filter_le _ _
theorem GD {v:VC} {rn:Nat} (h:v.2.1.2.2.2.length=rn):((rn:Int)==0)=Ek v:=by
 unfold Ek;cases hR:v.2.1.2.2.2 with
 |nil=>rw[hR] at h;subst h;rfl
 |cons a r=>
  rw[hR,JaH] at h;subst h;simp;omega
def eM (Vs:List VC) (Es:List EC):Int:=(2*((fg (dm Vs):Nat):Int) - Vs.length+Es.length - ((kp Vs Es+bF Vs:Nat):Int)).tdiv 2
section
variable {A:Option Κ} {n c:Nat} {Vs:List VC} {B:Option Κ} {m k:Nat} {Es:List EC}
theorem p8 (hf:aG Vs Es):kp Vs Es≤80:=by
 obtain⟨P,hP,e⟩:=iK hf;rw[e];have h1:=zH hP.nd hP.sub
 have:=hf.l80
 omega
theorem zT {w:ο} (h:bz w A n c Vs B m k Es):Vs.length=n∧Es.length=m:=⟨h.v.rlen aS (by decide),h.e.rlen bM (by decide)⟩
theorem nR (hf:aG Vs Es):fg (dm Vs)≤24:=by
 have:=VA Vs
 have:=hf.v24
 omega
theorem Io {w:ο} (h:bz w A n c Vs B m k Es):(2*((fg (dm Vs):Nat):Int) - (n:Int)+(m:Int) - ((kp Vs Es+bF Vs:Nat):Int)).tdiv 2=eM Vs Es:=by
 obtain⟨h1,h2⟩:=zT h;rw[eM,h1,h2]
end
theorem vQ {w:ο} {B s n c:Nat} {A:Option Κ} {xs:List ψ} (h:bg w B s A n c xs) {p:Κ} {v:ψ} (hp:w.cell? p=ζ v) (hv:¬v∈xs) (u:ψ):bg (w.setCell p u) B s A n c xs:=
 ⟨h.len,h.none_,h.le,h.low,fun a ha j z hz=>by
  have h1:=h.cell a ha j z hz
  by_cases e:p=a.add j
  ·rw[←e,hp] at h1;obtain rfl:=Μ h1;exact absurd (ω hz) hv
  ·rw[World.cell?_setCell_other _ _ _ _ e];exact h1⟩
theorem size_setCell (w:ο) (p:Κ) (u:ψ):(w.setCell p u).heap.size=w.heap.size:=by simp
theorem yT {α:Type} {f:α→List ψ}:∀{L:List α} {v:ψ},v∈ah f L→∃x∈L,v∈f x:=by
 intro L
 induction L with
 |nil=>intro v h;cases h
 |cons a r ih=>
  intro v h;rcases Jan.1 (show v∈f a++ah f r from h) with h|h
  ·exact⟨a,Jai ..,h⟩
  ·obtain⟨x,hx,h2⟩:=ih h;exact⟨x,Jad _ hx,h2⟩
theorem xo {Es:List EC} {A:Option Κ} {n c:Nat}:¬Ο A n c∈ah eC Es:=fun h=>by
 obtain⟨x,_,hx⟩:=yT h;simp[eC] at hx
theorem E4 {L:List D} {A:Option Κ} {n c:Nat}:¬Ο A n c∈aA L:=fun h=>by
 rw[lN] at h;obtain⟨x,_,hx⟩:=yT h;simp[dC] at hx
structure Wr (W:ο) (lo:Nat) (A:Option Κ) (n c:Nat) (Us:List VC) (B:Option Κ) (m k:Nat) (Es:List EC):Prop where
 v:W.ownsRow lo 59 5 (γ A n c) n (ah vC Us)
 e:bg W W.heap.size 4 B m k (ah eC Es)
 r:∀x∈Us,RgOk W x.2.1
section
variable {W W':ο} {lo:Nat} {A:Option Κ} {n c:Nat} {Us:List VC} {B:Option Κ} {m k:Nat} {Es:List EC}
theorem Cl.wr (h:Cl W lo A n c Us B m k Es):Wr W lo A n c Us B m k Es:=⟨h.v,h.dg.e,h.dg.r⟩
theorem Wr.dg (h:Wr W lo A n c Us B m k Es):bz W A n c Us B m k Es:=⟨aK h.v,h.e,h.r⟩
theorem Wr.bl (h:Wr W lo A n c Us B m k Es) (hb:σ W.heap.size W W'):Wr W' lo A n c Us B m k Es:=⟨bo h.v hb,h.e.bl hb,fun x hx=>(h.r x hx).bl hb⟩
theorem Wr.al (h:Wr W lo A n c Us B m k Es) (o:Obj):Wr (W.alloc o) lo A n c Us B m k Es:=h.bl (az W o)
theorem Wr.dr (h:Wr W lo A n c Us B m k Es):Wr W.drew lo A n c Us B m k Es:=h.bl ((Θ _ _).drew)
theorem IN {g i:Nat} {R:Rg} (h:RgOk W R) {A1:Option Κ} {n1 c1:Nat} (hp:W.cell? ⟨g,i,ε⟩=ζ (γ A1 n1 c1)) (u:ψ):RgOk (W.setCell ⟨g,i,ε⟩ u) R:=
 ⟨h.1,by rw[size_setCell];exact vQ h.2 hp E4 u⟩
theorem Wr.far (h:Wr W lo A n c Us B m k Es) {g i:Nat} {A1:Option Κ} {n1 c1:Nat} (hp:W.cell? ⟨g,i,ε⟩=ζ (γ A1 n1 c1)) (hg:∀a,A=ζ a→g≠a.block) (u:ψ):Wr (W.setCell ⟨g,i,ε⟩ u) lo A n c Us B m k Es:=
 ⟨aT h.v (fun e=>by
  cases A with
  |none=>cases e
  |some a=>
   exact hg a rfl (Μ e)) u,by rw[size_setCell];exact vQ h.e hp xo u,fun x hx=>IN (h.r x hx) hp u⟩
theorem Wr.put (h:Wr W lo A n c Us B m k Es) {j:Nat} {x:VC} (hx:Us[j]? =ζ x) (hj:j<n) (R:Rg) (hR:RgOk W R):
 ∃g,A=ζ ⟨g,0,ε⟩∧lo≤g∧(∃cs,Whole W g 59 cs)∧W.cell? ⟨g,j*5+2,ε⟩=ζ (γ x.2.1.1 x.2.1.2.1 x.2.1.2.2.1)∧W.frozen? ⟨g,j*5+2,ε⟩=ρ∧
  Wr (W.setCell ⟨g,j*5+2,ε⟩ (γ R.1 R.2.1 R.2.2.1)) lo A n c (Us.set j (x.1,R,x.2.2)) B m k Es:=by
 obtain⟨g,junk,e,fw,hw,hc,hf,ho⟩:=eZ (i:=2) (y:=(x.1,R,x.2.2)) (u:=γ R.1 R.2.1 R.2.2.1) aS h.v hx hj (by omega) rfl;have qB:W.cell? ⟨g,j*5+2,ε⟩=ζ (γ x.2.1.1 x.2.1.2.1 x.2.1.2.2.1):=hc.trans rfl
 refine⟨g,e,fw,⟨_,hw⟩,qB,hf,ho,by rw[size_setCell];exact vQ h.e qB xo _,fun y hy=>IN ?_ qB _⟩
 rcases List.mem_or_eq_of_mem_set hy with hy|rfl
 ·exact h.r y hy
 ·exact hR
end
end Go.Proofs.YtpdpbfmiahjiiaaGreat
