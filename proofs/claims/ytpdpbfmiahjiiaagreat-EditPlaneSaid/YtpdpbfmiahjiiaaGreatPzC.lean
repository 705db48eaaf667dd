/- Several texts in one. -/
import Derived.Test.YtpdpbfmiahjiiaaGreatPzA
import Derived.Test.YtpdpbfmiahjiiaaGreatPzB
import Derived.Deep.LoopGhost
import Derived.Deep.RegionLaw
import Derived.Lib.SliceRun
set_option linter.unusedSectionVars false
set_option linter.unusedSimpArgs false
set_option linter.unusedVariables false
set_option maxRecDepth 100000
set_option maxHeartbeats 16000000
namespace Go.Proofs.YtpdpbfmiahjiiaaGreat
open Go.RowKit
open _root_.Go.Value renaming slice→γ,string→μ,pointer→υ,agg→φ,bool→Β,tuple→Ξ,slice→Ο,oneCell'→Τ,agg→JbL
open _root_.Go.Obj renaming cells→δ
open _root_.Option renaming none→ε,some→ζ,some→Jae
open _root_.Go.Proofs.Tryz renaming prog→η
open _root_.List renaming getElem?_eq_getElem→θ,map_cons→ι,getElem?_eq_some_iff→ν,getD_eq_getElem?_getD→χ,mem_of_getElem?→ω,mem_map→Α,length_append→Ε,mem_cons→Η,take_of_length_le→Ι,getElem?_append_left→Jab,mem_cons_of_mem→Jad,mem_cons_self→Jai,drop_of_length_le→Jak,mem_append→Jan,mem_flatMap→Jat,append_assoc→Jay,length_drop→Jaz,length_take→JaA,mem_filter→JaC,nil_append→JaF,nodup_cons→JaJ,nodup_append→JaL,drop_append→JaR,getElem?_drop→JaS,map_congr_left→JaV,map_map→JaW,take_append_drop→Jbf,pairwise_map→Jbg,not_mem_nil→Jbh,append_nil→Jbi,getElem_mem→Jbs,take_append→Jbt,getElem_of_mem→Jbv,flatMap_cons→Jby,mem_of_mem_drop→JbC,pairwise_cons→JbM,take_zero→JbQ
open _root_.Go.Act renaming put→ξ
open _root_.Go renaming World→ο,Value→ψ,Calls→Ζ,Addr→Κ,maxLen→Jap,bodyPost_ret→JaN
open _root_.Bool renaming false→ρ,true→τ
open _root_.Go.RowKit renaming Below→σ
open _root_.Nat renaming le_refl→Δ,le_trans→Λ,add_zero→Jac,zero_le→Jas,zero_add→JaI,lt_or_ge→JaM,sub_self→JaP,min_def→JbR
open _root_.Go.RowKit.Below renaming refl→Θ
open _root_.Option.some renaming inj→Μ
open _root_.Go.Addr renaming add_lit→Ν
open _root_.ByteArray renaming empty→Jaf
open _root_.Go.IntKind renaming i64→Jaw,wrap_i64→JaT
open _root_.Go.Builtin renaming zeroCells→JaO,append_→JaY,copy_→Jbr
open _root_.Prod.mk renaming injEq→Jba
open _root_.Go.Departure renaming mixedOrders→JbG
abbrev Nm:=Int × Int
abbrev VS:=Nm × List D × ByteArray × Int
abbrev SS:=List VS × List EC × List Gn
def dW (a b:Nm):Int:=jz a.1 a.2 b.1 b.2
theorem jA (a b:Nm):dW a b=0↔a=b:=by
 unfold dW;rw[jF];exact⟨fun h=>Prod.ext h.1 h.2,fun h=>by rw[h];exact⟨rfl,rfl⟩⟩
theorem sR (a b:Nm):dW b a= - dW a b:=sq _ _ _ _
theorem lW {a b c:Nm} (h:dW a b<0) (k:dW b c<0):dW a c<0:=by
 have h1:dW a c≤0:=rh _ _ _ _ _ _ (Int.le_of_lt h) (Int.le_of_lt k);rcases Int.lt_or_eq_of_le h1 with h2|h2
 ·exact h2
 ·have e:=(jA a c).1 h2;subst e
  have:=sR a b
  omega
section
variable {α:Type} (k:α→Nm)
def od (l:List α):Prop:=l.Pairwise (fun a b=>dW (k a) (k b)<0)
def kq:List α→α→List α
 |[],v=>[v]
 |u::l,v=>if dW (k v) (k u)<0 then v::u::l else u::kq l v
def pf (l:List α) (x:Nm):Bool:=l.any (fun v=>decide (k v=x))
def CL (l:List α) (x:Nm):List α:=l.filter (fun v=>decide (¬k v=x))
variable {k}
theorem db {l:List α} {x:Nm}:pf k l x=τ↔∃v∈l,k v=x:=by simp[pf]
theorem gY {l:List α} {x:Nm}:pf k l x=ρ↔∀v∈l,¬k v=x:=by simp[pf]
theorem od.tail {v:α} {l:List α} (h:od k (v::l)):od k l:=(JbM.1 h).2
theorem od.head {v:α} {l:List α} (h:od k (v::l)):∀u∈l,dW (k v) (k u)<0:=(JbM.1 h).1
theorem od.nodup {l:List α} (h:od k l):(l.map k).Nodup:=by
 rw[List.Nodup,Jbg];exact h.imp (fun {a b} h e=>by rw[(jA _ _).2 e] at h;omega)
theorem cy {v:α}:∀{l:List α} {u:α},u∈kq k l v↔u=v∨u∈l
 |[],u=>by simp[kq]
 |w::l,u=>by
  rw[kq];split
  ·simp
  ·rw[Η,cy,Η];constructor
   ·rintro (h|h|h)
    ·exact .inr (.inl h)
    ·exact .inl h
    ·exact .inr (.inr h)
   ·rintro (h|h|h)
    ·exact .inr (.inl h)
    ·exact .inl h
    ·exact .inr (.inr h)
theorem ll (v:α):∀l:List α,(kq k l v).length=l.length+1
 |[]=>rfl
 |w::l=>by
  rw[kq];split
  ·rfl
  ·rw[List.length_cons,ll v l];rfl
theorem wC {v:α}:∀{l:List α},od k l→(∀u∈l,¬k u=k v)→od k (kq k l v)
 |[],_,_=>List.pairwise_singleton _ _
 |w::l,h,hn=>by
  rw[kq];split
  ·rename_i dz;refine JbM.2 ⟨fun u hu=>?_,h⟩;rcases Η.1 hu with rfl|hu
   ·exact dz
   ·exact lW dz (h.head u hu)
  ·rename_i OT;refine JbM.2 ⟨fun u hu=>?_,wC h.tail (fun u hu=>hn u (Jad _ hu))⟩;rcases cy.1 hu with rfl|hu
   ·have h1:=sR (k w) (k u);have h2:¬dW (k w) (k u)=0:=fun e=>hn w Jai ((jA _ _).1 e)
    omega
   ·exact h.head u hu
theorem Aa {v:α}:∀{l:List α} {i:Nat},i≤l.length→(∀t u,l[t]? =ζ u→t<i→dW (k u) (k v)<0)→(∀t u,l[t]? =ζ u→i≤t→0<dW (k u) (k v))→kq k l v=l.take i++v::l.drop i
 |[],i,hi,_,_=>by
  obtain rfl:i=0:=by simpa using hi
  rfl
 |w::l,0,_,_,h2=>by
  have h:=h2 0 w rfl (Δ _);have hn:=sR (k w) (k v);rw[kq,if_pos (by omega)];rfl
 |w::l,i+1,hi,h1,h2=>by
  have h:=h1 0 w rfl (by omega);have hn:=sR (k w) (k v);rw[kq,if_neg (by omega),Aa (i:=i) (by simpa using hi) (fun t u ht dz=>h1 (t+1) u ht (by omega)) (fun t u ht hle=>h2 (t+1) u ht (by omega))];rfl
theorem sh:∀{l:List α} {i:Nat} {v:α},od k l→l[i]? =ζ v→CL k l (k v)=l.take i++l.drop (i+1)
 |[],i,v,_,h=>by simp at h
 |w::l,0,v,hu,h=>by
  obtain rfl:w=v:=by simpa using h
  have e:∀u∈l,decide (¬k u=k w)=τ:=fun u qY=>decide_eq_true (fun q=>by
   have:=hu.head u qY
   rw[(jA _ _).2 q.symm] at this;omega)
  show List.filter _ (w::l)=_;rw[List.filter_cons_of_neg (by simp),List.filter_eq_self.2 e];rfl
 |w::l,i+1,v,hu,h=>by
  have hv:v∈l:=ω (i:=i) (by simpa using h)
  have hw:¬k w=k v:=fun q=>by
   have:=hu.head v hv
   rw[(jA _ _).2 q] at this;omega
  have ih:=sh (i:=i) hu.tail (by simpa using h);show List.filter _ (w::l)=_;rw[List.filter_cons_of_pos (by simpa using hw)];show w::CL k l (k v)=_;rw[ih];rfl
theorem sF {l:List α} {x:Nm} (h:od k l):od k (CL k l x):=h.filter _
end
theorem fi {α:Type} {f:α→Nm}:∀{l:List α} {u v:α},(l.map f).Nodup→u∈l→v∈l→f u=f v→u=v
 |[],_,_,_,hu,_,_=>by cases hu
 |w::l,u,v,h,hu,hv,e=>by
  rw[ι,JaJ] at h;rcases Η.1 hu with QE|QE<;>rcases Η.1 hv with Yo|Yo
  ·rw[QE,Yo]
  ·exact absurd (Α.2 ⟨v,Yo,by rw[←e,QE]⟩) h.1
  ·exact absurd (Α.2 ⟨u,QE,by rw[e,Yo]⟩) h.1
  ·exact fi h.2 QE Yo e
def tN (v:VS) (l:List D):VS:=(v.1,l,v.2.2)
def dS (V:List VS) (x:Nm) (l:List D):List VS:=V.map (fun v=>if v.1=x then tN v l else v)
def rings (V:List VS) (f:List D→List D):List VS:=V.map (fun v=>tN v (f v.2.1))
theorem NK {V:List VS} {f:List D→List D} {u:VS} (hu:(V.map (·.1)).Nodup) (hm:u∈V) (h:∀v∈V,¬v.1=u.1→f v.2.1=v.2.1):rings V f=dS V u.1 (f u.2.1):=by
 unfold rings dS;refine JaV (fun v hv=>?_)
 by_cases e:v.1=u.1
 ·have e2:v=u:=fi hu hv hm e;rw[if_pos e,e2]
 ·rw[if_neg e,h v hv e];rfl
theorem lI (V:List VS) (x:Nm) (l:List D):(dS V x l).map (·.1)=V.map (·.1):=by
 unfold dS;rw[JaW];refine JaV (fun v _=>?_)
 show(if v.1=x then tN v l else v).1=v.1
 split<;>rfl
theorem xc (V:List VS) (f:List D→List D):(rings V f).map (·.1)=V.map (·.1):=by
 unfold rings;rw[JaW];rfl
def bX (V:List VS) (x:D):Bool:=V.any (fun v=>decide (x∈v.2.1))
def D4 (V:List VS) (x:D):Nm:=match V.find? (fun v=>decide (x∈v.2.1)) with|some v=>v.1|none=>(0,0)
def eS (V:List VS) (x:Nm):List D:=match V.find? (fun v=>decide (v.1=x)) with|some v=>v.2.1|none=>[]
def bu (V:List VS) (x:Nm):Bool:=pf (fun v:VS=>v.1) V x
def bI (E:List EC) (x:Nm):Bool:=pf (fun e:EC=>e.1) E x
def fx (V:List VS) (v:VS):List VS:=kq (fun v:VS=>v.1) V v
def gH (E:List EC) (e:EC):List EC:=kq (fun e:EC=>e.1) E e
def dM (V:List VS) (x:Nm):List VS:=CL (fun v:VS=>v.1) V x
def jX (E:List EC) (x:Nm):List EC:=CL (fun e:EC=>e.1) E x
def dI (d:D):Nm:=(d.1,d.2.1)
def bh (x:Nm) (s:Int):D:=(x.1,x.2,s)
def dP (G:List Gn) (g:Gn):List Gn:=if (if (G.any fun y=>decide (y.1=g.1))=τ then G.length - 1 else G.length)≥400 then G else rq G g
def lz (V:List VS) (G:List Gn) (c:Nm × D):Nm × D:=(c.1,if kr (bX V) G G.length c.2∈eS V c.1 then kr (bX V) G G.length c.2 else zD)
def kW (V:List VS) (x:D):D:=
 let l:=eS V (D4 V x)
 let p:=kT l x
 let q:=if dI p=dI x then kT l p else p
 if dI q=dI x then zD else q
def cO (V:List VS) (c:Nm × D) (x:D):List VS:=dS V c.1 (aM (ja (eS V c.1) c.2 x))
def iU (V:List VS) (x:D):List VS:=dS V (D4 V x) (aM (jy (eS V (D4 V x)) x))
def dL (V:List VS) (o x:D):List VS:=dS V (D4 V o) (aM (j4 (eS V (D4 V o)) o x))
def dv:SS:=([],[],[])
section
variable (P:List VS→List EC→Bool)
def og (S:SS) (x:Nm):SS × Int:=
 if bu S.1 x=τ then(dv,12) else if 24≤S.1.length then(dv,3) else((fx S.1 (x,[],Jaf,0),S.2),0)
def oc (S:SS) (x:Nm):SS × Int:=
 if bu S.1 x=ρ then(dv,13) else if ¬eS S.1 x=[] then(dv,14) else((dM S.1 x,S.2),0)
def fO (S:SS) (x:Nm) (a b:Nm × D):SS × Int:=
 if bI S.2.1 x=τ then(dv,12) else if 40≤S.2.1.length then(dv,3)
 else if bu S.1 a.1=ρ∨bu S.1 b.1=ρ then(dv,13)
 else
  let V1:=cO S.1 (lz S.1 S.2.2 a) (bh x 0)
  let V2:=cO V1 (if b.2=bh x 0 then b else lz S.1 S.2.2 b) (bh x 1)
  if P V2 (gH S.2.1 (x,Jaf,0))=τ then((V2,gH S.2.1 (x,Jaf,0),S.2.2),0) else(dv,15)
def jK (S:SS) (x:Nm):SS × Int:=
 if bI S.2.1 x=ρ then(dv,13)
 else((iU (iU S.1 (bh x 0)) (bh x 1),jX S.2.1 x,dP (dP S.2.2 (bh x 0,kW S.1 (bh x 0))) (bh x 1,kW S.1 (bh x 1))),0)
def dJ (S:SS) (x nw ot:Nm) (n:Int):SS × Int:=
 if bI S.2.1 x=ρ then(dv,13)
 else if bu S.1 nw=τ∨bI S.2.1 ot=τ then(dv,12)
 else if 24≤S.1.length∨40≤S.2.1.length then(dv,3)
 else
  let m:=bh x (1 - n.tmod 2)
  let k:=bh ot (n.tdiv 2)
  ((fx (dL S.1 m (bh ot (1 - n.tdiv 2))) (nw,aM [m,k],Jaf,0),gH S.2.1 (ot,Jaf,0),S.2.2),0)
def jn (l:List D) (ot:Nm):Option (D × D):=match l with
 |[a,b]=>if dI a=dI b then ε else if dI a=ot then ζ (b,a) else if dI b=ot then ζ (a,b) else ε
 |_=>ε
def gU (S:SS) (x ot:Nm):SS × Int:=
 if bu S.1 x=ρ then(dv,13)
 else match jn (eS S.1 x) ot with
  |none=>(dv,14)
  |some (a,b)=>
   let far:D:=(b.1,b.2.1,1 - b.2.2)
   ((dL (dM S.1 x) far a,jX S.2.1 ot,dP (dP S.2.2 (bh ot 0,if bh ot 0=far then a else zD)) (bh ot 1,if bh ot 1=far then a else zD)),0)
def lg (V:List VS) (x:Nm) (f:ByteArray × Int→ByteArray × Int):List VS:=V.map (fun v=>if v.1=x then(v.1,v.2.1,f v.2.2) else v)
def o6 (E:List EC) (x:Nm) (f:ByteArray × Int→ByteArray × Int):List EC:=E.map (fun e=>if e.1=x then(e.1,f e.2) else e)
def setS (S:SS) (x:Nm) (e:Bool) (f:ByteArray × Int→ByteArray × Int):SS × Int:=
 if e=τ then(if bI S.2.1 x=τ then((S.1,o6 S.2.1 x f,S.2.2),0) else(dv,13))
 else if bu S.1 x=τ then((lg S.1 x f,S.2),0) else(dv,13)
end
structure dx (S:SS):Prop where
 vup:od (fun v:VS=>v.1) S.1
 eup:od (fun e:EC=>e.1) S.2.1
 once:(S.1.flatMap (fun v=>v.2.1)).Nodup
 turned:∀v∈S.1,aM v.2.1=v.2.1
 known:∀v∈S.1,∀d∈v.2.1,bI S.2.1 (dI d)=τ∧(d.2.2=0∨d.2.2=1)
 ends:∀e∈S.2.1,bX S.1 (bh e.1 0)=τ∧bX S.1 (bh e.1 1)=τ
theorem dY:∀{V:List VS} {u v:VS} {x:D},(V.flatMap (fun v=>v.2.1)).Nodup→u∈V→v∈V→x∈u.2.1→x∈v.2.1→u=v
 |[],_,_,_,_,hu,_,_,_=>by cases hu
 |w::V,u,v,x,h,hu,hv,h1,h2=>by
  rw[Jby,JaL] at h;obtain⟨ha,hb,hc⟩:=h;rcases Η.1 hu with e1|e1<;>rcases Η.1 hv with e2|e2
  ·rw[e1,e2]
  ·exact absurd rfl (hc x (e1▸h1) x (Jat.2 ⟨v,e2,h2⟩))
  ·exact absurd rfl (hc x (e2▸h2) x (Jat.2 ⟨u,e1,h1⟩))
  ·exact dY hb e1 e2 h1 h2
theorem cn {V:List VS} {x:D}:bX V x=τ↔∃v∈V,x∈v.2.1:=by simp[bX]
theorem xF {α:Type} {p:α→Bool}:∀{l:List α} {u:α},u∈l→p u=τ→(∀v∈l,p v=τ→v=u)→l.find? p=ζ u
 |[],_,hu,_,_=>by cases hu
 |w::l,u,hu,hp,h=>by
  by_cases hw:p w=τ
  ·rw[List.find?_cons_of_pos hw,h w Jai hw]
  ·rw[List.find?_cons_of_neg hw];rcases Η.1 hu with e|e
   ·exact absurd (e▸hp) hw
   ·exact xF e hp (fun v hv=>h v (Jad _ hv))
theorem wI {V:List VS} (h:(V.flatMap (fun v=>v.2.1)).Nodup) {u:VS} (hu:u∈V) {x:D} (hx:x∈u.2.1):D4 V x=u.1:=by
 unfold D4;rw[xF (u:=u) hu (decide_eq_true hx) (fun v hv hp=>dY h hv hu (of_decide_eq_true hp) hx)]
theorem fI {V:List VS} (h:(V.map (·.1)).Nodup) {u:VS} (hu:u∈V):eS V u.1=u.2.1:=by
 unfold eS;rw[xF (u:=u) hu (decide_eq_true rfl) (fun v hv hp=>fi h hv hu (of_decide_eq_true hp))]
theorem vY {V:List VS} (hk:(V.map (·.1)).Nodup) (ho:(V.flatMap (fun v=>v.2.1)).Nodup) {x:D} (hx:bX V x=τ) {f:List D→List D} (hf:∀v∈V,¬x∈v.2.1→f v.2.1=v.2.1):
 rings V f=dS V (D4 V x) (f (eS V (D4 V x))):=by
 obtain⟨u,hu,rE⟩:=cn.1 hx;rw[wI ho hu rE,fI hk hu];exact NK hk hu (fun v hv bj=>hf v hv (fun q=>bj (by rw[dY ho hv hu q rE])))
theorem Ii {l:List D} {d:D} (h:¬d∈l):jy l d=l:=by unfold jy;rw[if_neg h]
theorem Qf {l:List D} {o d:D} (h:¬o∈l):j4 l o d=l:=by unfold j4;rw[if_neg (fun q=>h q.1)]
theorem nL {V:List VS} (hk:(V.map (·.1)).Nodup) (ho:(V.flatMap (fun v=>v.2.1)).Nodup) (ht:∀v∈V,aM v.2.1=v.2.1) {x:D} (hx:bX V x=τ):rings V (fun l=>aM (jy l x))=iU V x:=
 vY hk ho hx (fun v hv hn=>by show aM (jy v.2.1 x)=v.2.1;rw[Ii hn,ht v hv])
theorem yz {V:List VS} (hk:(V.map (·.1)).Nodup) (ho:(V.flatMap (fun v=>v.2.1)).Nodup) (ht:∀v∈V,aM v.2.1=v.2.1) {o x:D} (hx:bX V o=τ):rings V (fun l=>aM (j4 l o x))=dL V o x:=
 vY hk ho hx (fun v hv hn=>by show aM (j4 v.2.1 o x)=v.2.1;rw[Qf hn,ht v hv])
theorem Bp {L:List D} {i:Nat} (h:i<L.length):L.getD i (0,0,0)=L[i]:=by
 rw[χ,θ h];rfl
def ou (A B:List D):Prop:=∃X Y,A=X++Y∧B=Y++X
theorem ou.rfl_ (A:List D):ou A A:=⟨A,[],by simp,by simp⟩
theorem ou.symm {A B:List D} (h:ou A B):ou B A:=by
 obtain⟨X,Y,rfl,rfl⟩:=h;exact⟨Y,X,rfl,rfl⟩
theorem ou.trans {A B C:List D} (h:ou A B) (k:ou B C):ou A C:=by
 obtain⟨X,Y,rfl,rfl⟩:=h;obtain⟨U,V,e,rfl⟩:=k;rcases List.append_eq_append_iff.1 e with⟨Z,h1,h2⟩|⟨Z,h1,h2⟩
 ·exact⟨Z,V++Y,by rw[h2];simp,by rw[h1];simp⟩
 ·exact⟨X++U,Z,by rw[h1];simp,by rw[h2];simp⟩
theorem ou.len {A B:List D} (h:ou A B):A.length=B.length:=by
 obtain⟨X,Y,rfl,rfl⟩:=h;simp only[Ε];omega
theorem ou.mem {A B:List D} (h:ou A B) (d:D):d∈A↔d∈B:=by
 obtain⟨X,Y,rfl,rfl⟩:=h;simp only[Jan];exact Or.comm
theorem ou.nodup {A B:List D} (h:ou A B) (n:A.Nodup):B.Nodup:=by
 obtain⟨X,Y,rfl,rfl⟩:=h;rw[JaL] at n ⊢;exact⟨n.2.1,n.1,fun a ha b hb e=>n.2.2 b hb a ha e.symm⟩
theorem ou.filter {A B:List D} (h:ou A B) (p:D→Bool):ou (A.filter p) (B.filter p):=by
 obtain⟨X,Y,rfl,rfl⟩:=h;exact⟨X.filter p,Y.filter p,by simp,by simp⟩
theorem ou.map {A B:List D} (h:ou A B) (f:D→D):ou (A.map f) (B.map f):=by
 obtain⟨X,Y,rfl,rfl⟩:=h;exact⟨X.map f,Y.map f,by simp,by simp⟩
theorem UQ (L:List D) (k:Nat):ou L (L.drop k++L.take k):=⟨L.take k,L.drop k,by simp,rfl⟩
theorem eN (L:List D):ou L (aM L):=UQ L _
theorem rm (L:List D):∀k,∀j,j<k→pA (L.getD (cD L k) (0,0,0)) (L.getD j (0,0,0))≤0
 |0,j,h=>by omega
 |k+1,j,h=>by
  simp only[cD];split
  ·rename_i dz
   by_cases hj:j=k
   ·subst hj;rw[JJ];omega
   ·have:=rm L k j (by omega)
    exact F7 _ _ _ (by omega) this
  ·rename_i OT
   by_cases hj:j=k
   ·subst hj;rw[CF];omega
   ·exact rm L k j (by omega)
theorem Fo (L:List D) (h:0<L.length):(aM L).getD 0 (0,0,0)=L.getD (cD L L.length) (0,0,0):=by
 have hl:=pN L L.length h;unfold aM;rw[χ,Jab (by simp;omega),JaS,Jac,χ]
theorem yZ (L:List D) (h:0<L.length) (d:D) (hd:d∈L):pA ((aM L).getD 0 (0,0,0)) d≤0:=by
 rw[Fo L h];obtain⟨i,hi,he⟩:=Jbv hd
 have:=rm L L.length i hi
 rw[Bp hi,he] at this;exact this
theorem U0 {A B:List D} (h:ou A B) (n:A.Nodup) (hd:0<A.length→A.getD 0 (0,0,0)=B.getD 0 (0,0,0)):A=B:=by
 obtain⟨X,Y,rfl,rfl⟩:=h;cases X with
 |nil=>simp
 |cons a X=>
  cases Y with
  |nil=>simp
  |cons b Y=>
   have:a=b:=by simpa using hd (by simp)
   subst this;simp at n
theorem Ma {A B:List D} (h:ou A B) (n:A.Nodup):aM A=aM B:=by
 have h1:ou (aM A) (aM B):=(eN A).symm.trans (h.trans (eN B));refine U0 h1 ((eN A).nodup n) fun hl=>?_
 rw[kB] at hl;have Pw:0<B.length:=by rw[←h.len];exact hl
 have m1:(aM A).getD 0 (0,0,0)∈A:=by
  rw[(eN A).mem,Bp (by rw[kB];exact hl)];exact Jbs _
 have m2:(aM B).getD 0 (0,0,0)∈B:=by
  rw[(eN B).mem,Bp (by rw[kB];exact Pw)];exact Jbs _
 have a1:=yZ A hl _ ((h.mem _).2 m2);have a2:=yZ B Pw _ ((h.mem _).1 m1);rw[CF] at a2;exact(yG _ _).1 (by omega)
theorem mV {A:List D} (n:A.Nodup):aM (aM A)=aM A:=(Ma (eN A) n).symm
theorem jP {L:List D} {d:D}:d∈aM L↔d∈L:=((eN L).mem d).symm
theorem kS {L:List D} (h:L.Nodup):(aM L).Nodup:=(eN L).nodup h
theorem Lw {l:List D} {d:D} (h:d∈l):jy l d=l.eraseIdx (l.idxOf d):=by
 unfold jy;rw[if_pos h,List.eraseIdx_eq_take_drop_succ]
theorem nJ (l:List D) (d:D):jy l d=l.erase d:=by
 by_cases h:d∈l
 ·rw[Lw h,List.erase_eq_eraseIdx_of_idxOf rfl]
 ·rw[Ii h,List.erase_of_not_mem h]
theorem BV {l:List D} {d e:D} (h:l.Nodup):e∈jy l d↔e≠d∧e∈l:=by rw[nJ];exact h.mem_erase_iff
theorem rj {l:List D} {d:D} (h:l.Nodup):(jy l d).Nodup:=by rw[nJ];exact h.erase d
theorem iJ:∀{V:List VS} {v:VS},(V.flatMap (fun v=>v.2.1)).Nodup→v∈V→v.2.1.Nodup
 |[],_,_,hv=>by cases hv
 |w::V,v,h,hv=>by
  rw[Jby,JaL] at h;rcases Η.1 hv with e|e
  ·rw[e];exact h.1
  ·exact iJ h.2.1 e
theorem CW {V:List VS} {x:Nm} {l:List D} (h:¬x∈V.map (·.1)):dS V x l=V:=by
 unfold dS;rw[JaV (g:=id) (fun v hv=>by rw[if_neg (fun e=>h (Α.2 ⟨v,hv,e⟩))];rfl),List.map_id]
theorem iA {V:List VS} {x:Nm} {l:List D} {v:VS} (h:v∈dS V x l):(v∈V∧¬v.1=x)∨∃u∈V,u.1=x∧v=tN u l:=by
 obtain⟨u,hu,rfl⟩:=Α.1 h
 by_cases e:u.1=x
 ·exact .inr ⟨u,hu,e,by show(if u.1=x then tN u l else u)=_;rw[if_pos e]⟩
 ·have e2:(if u.1=x then tN u l else u)=u:=if_neg e;exact .inl ⟨by rw[e2];exact hu,by rw[e2];exact e⟩
theorem It {x:Nm} {l:List D}:∀{V:List VS},(V.map (·.1)).Nodup→(V.flatMap (fun v=>v.2.1)).Nodup→l.Nodup→(∀d∈l,∀v∈V,¬v.1=x→¬d∈v.2.1)→((dS V x l).flatMap (fun v=>v.2.1)).Nodup
 |[],_,_,_,_=>List.nodup_nil
 |w::V,hk,ho,hl,hd=>by
  rw[ι,JaJ] at hk;rw[Jby,JaL] at ho;obtain⟨o1,o2,o3⟩:=ho;have ih:=It (x:=x) (l:=l) hk.2 o2 hl (fun d h v hv=>hd d h v (Jad _ hv))
  by_cases e:w.1=x
  ·have e1:dS (w::V) x l=tN w l::V:=by
    have:=CW (V:=V) (x:=x) (l:=l) (e▸hk.1)
    unfold dS at this ⊢;rw[ι,this,if_pos e]
   rw[e1,Jby,JaL]
   refine⟨hl,o2,fun a ha b hb q=>?_⟩
   obtain⟨v,hv,Wc⟩:=Jat.1 hb;have bj:¬v.1=x:=fun q2=>hk.1 (Α.2 ⟨v,hv,by rw[q2,e]⟩)
   exact hd b (q▸ha) v (Jad _ hv) bj Wc
  ·have e1:dS (w::V) x l=w::dS V x l:=by
    unfold dS;rw[ι,if_neg e]
   rw[e1,Jby,JaL]
   refine⟨o1,ih,fun a ha b hb q=>?_⟩
   obtain⟨v,hv,Wc⟩:=Jat.1 hb;rcases iA hv with⟨h1,h2⟩|⟨u,hu,h1,h2⟩
   ·exact o3 a ha b (Jat.2 ⟨v,h1,Wc⟩) q
   ·rw[h2] at Wc;exact hd b Wc w Jai e (q▸ha)
theorem Am {V:List VS} {x:Nm} {l:List D} {d:D} (hk:(V.map (·.1)).Nodup) {u:VS} (hu:u∈V) (Xl:u.1=x):bX (dS V x l) d=τ↔d∈l∨∃v∈V,¬v.1=x∧d∈v.2.1:=by
 rw[cn];constructor
 ·rintro⟨v,hv,hd⟩;rcases iA hv with⟨h1,h2⟩|⟨w,hw,h1,h2⟩
  ·exact .inr ⟨v,h1,h2,hd⟩
  ·rw[h2] at hd;exact .inl hd
 ·rintro (hd|⟨v,hv,bj,hd⟩)
  ·exact⟨tN u l,Α.2 ⟨u,hu,if_pos Xl⟩,hd⟩
  ·exact⟨v,Α.2 ⟨v,hv,if_neg bj⟩,hd⟩
structure yW (V:List VS):Prop where
 keys:(V.map (·.1)).Nodup
 once:(V.flatMap (fun v=>v.2.1)).Nodup
 turned:∀v∈V,aM v.2.1=v.2.1
theorem dx.rg {S:SS} (h:dx S):yW S.1:=⟨h.vup.nodup,h.once,h.turned⟩
theorem yW.at_ {V:List VS} (h:yW V) {x:Nm} {l:List D} (hl:l.Nodup) (ht:aM l=l) (hd:∀d∈l,∀v∈V,¬v.1=x→¬d∈v.2.1):yW (dS V x l):=
 ⟨by rw[lI];exact h.keys,It h.keys h.once hl hd,fun v hv=>by
  rcases iA hv with⟨h1,h2⟩|⟨u,hu,h1,h2⟩
  ·exact h.turned v h1
  ·rw[h2];exact ht⟩
theorem yW.rem {V:List VS} (h:yW V) {x:D} (hx:bX V x=τ):yW (iU V x)∧∀d,bX (iU V x) d=τ↔d≠x∧bX V d=τ:=by
 obtain⟨u,hu,rE⟩:=cn.1 hx;have hn:=iJ h.once hu;unfold iU;rw[wI h.once hu rE,fI h.keys hu]
 refine⟨h.at_ (kS (rj hn)) (mV (rj hn)) (fun d hd v hv bj q=>?_),fun d=>?_⟩
 ·have h1:=((BV hn).1 (jP.1 hd)).2;exact bj (by rw[dY h.once hv hu q h1])
 ·rw[Am h.keys hu rfl,jP,BV hn,cn];constructor
  ·rintro (⟨h1,h2⟩|⟨v,hv,bj,hd⟩)
   ·exact⟨h1,u,hu,h2⟩
   ·exact⟨fun e=>bj (by rw[dY h.once hv hu hd (e▸rE)]),v,hv,hd⟩
  ·rintro⟨bj,v,hv,hd⟩
   by_cases e:v.1=u.1
   ·exact .inl ⟨bj,by rw[←fi h.keys hv hu e];exact hd⟩
   ·exact .inr ⟨v,hv,e,hd⟩
theorem OA {l:List D} {o x:D} (ho:o∈l) (hx:¬x∈l):j4 l o x=l.set (l.idxOf o) x:=by
 unfold j4;rw[if_pos ⟨ho,hx⟩,List.set_eq_take_append_cons_drop,if_pos (List.idxOf_lt_length_of_mem ho)]
theorem rJ {l:List D} {o x:D} (hn:l.Nodup) (ho:o∈l) (hx:¬x∈l):j4 l o x=l.map (fun d=>if d=o then x else d):=by
 rw[OA ho hx]
 induction l with
 |nil=>cases ho
 |cons a l ih=>
  rw[JaJ] at hn
  by_cases e:a=o
  ·subst e;rw[List.idxOf_cons_self,List.set_cons_zero,ι,if_pos rfl];congr 1;have h9:l.map (fun d=>if d=a then x else d)=l.map id:=JaV (fun d hd=>if_neg (fun q:d=a=>hn.1 (q▸hd)));rw[h9,List.map_id]
  ·have ho':o∈l:=(Η.1 ho).resolve_left (fun q=>e q.symm)
   have h8:(a::l).idxOf o=l.idxOf o+1:=by
    rw[List.idxOf_cons,show(a==o)=ρ by simpa using e];rfl
   rw[h8,List.set_cons_succ,ι,if_neg e,ih hn.2 ho' (fun q=>hx (Jad _ q))]
theorem Cb {l:List D} {o x d:D} (hn:l.Nodup) (ho:o∈l) (hx:¬x∈l):d∈j4 l o x↔d=x∨(d≠o∧d∈l):=by
 rw[rJ hn ho hx,Α];constructor
 ·rintro⟨a,ha,rfl⟩
  by_cases e:a=o
  ·rw[if_pos e];exact .inl rfl
  ·rw[if_neg e];exact .inr ⟨e,ha⟩
 ·rintro (rfl|⟨h1,h2⟩)
  ·exact⟨o,ho,if_pos rfl⟩
  ·exact⟨d,h2,if_neg h1⟩
theorem xj {l:List D} {o x:D} (hn:l.Nodup) (ho:o∈l) (hx:¬x∈l):(j4 l o x).Nodup:=by
 rw[rJ hn ho hx,List.Nodup,Jbg];refine hn.imp_of_mem (fun {a b} ha hb s8=>?_)
 by_cases e1:a=o<;>by_cases e2:b=o
 ·exact absurd (e1.trans e2.symm) s8
 ·rw[if_pos e1,if_neg e2];exact fun q=>hx (q▸hb)
 ·rw[if_neg e1,if_pos e2];exact fun q=>hx (q▸ha)
 ·rw[if_neg e1,if_neg e2];exact s8
theorem yr {l:List D} {a x d:D} (hx:¬x∈l):d∈ja l a x↔d=x∨d∈l:=by
 unfold ja;rw[if_neg hx];obtain⟨j,gj⟩:=aB ((max (fC l a) 0).toNat+1);rw[gj,Jan,Η];have h:d∈l↔d∈l.take j∨d∈l.drop j:=by rw[←Jan,Jbf]
 rw[h];constructor
 ·rintro (h|h|h)
  ·exact .inr (.inl h)
  ·exact .inl h
  ·exact .inr (.inr h)
 ·rintro (h|h|h)
  ·exact .inr (.inl h)
  ·exact .inl h
  ·exact .inr (.inr h)
theorem wB {l:List D} {a x:D} (hn:l.Nodup) (hx:¬x∈l):(ja l a x).Nodup:=by
 unfold ja;rw[if_neg hx];obtain⟨j,gj⟩:=aB ((max (fC l a) 0).toNat+1);rw[gj];have h1:(l.take j++l.drop j).Nodup:=by rw[Jbf];exact hn
 rw[JaL] at h1 ⊢
 refine⟨h1.1,JaJ.2 ⟨fun q=>hx (JbC q),h1.2.1⟩,fun p hp q hq e=>?_⟩
 rcases Η.1 hq with e2|hq
 ·exact hx (List.mem_of_mem_take (e2▸e▸hp))
 ·exact h1.2.2 p hp q hq e
theorem ky {V:List VS} {x:D} (h:bX V x=ρ) {v:VS} (hv:v∈V):¬x∈v.2.1:=fun q=>by
 have:=cn.2 ⟨v,hv,q⟩
 rw[h] at this;cases this
theorem yW.swp {V:List VS} (h:yW V) {o x:D} (ho:bX V o=τ) (hx:bX V x=ρ):yW (dL V o x)∧∀d,bX (dL V o x) d=τ↔d=x∨(d≠o∧bX V d=τ):=by
 obtain⟨u,hu,WW⟩:=cn.1 ho;have hn:=iJ h.once hu;have rE:=ky hx hu;unfold dL;rw[wI h.once hu WW,fI h.keys hu]
 refine⟨h.at_ (kS (xj hn WW rE)) (mV (xj hn WW rE)) (fun d hd v hv bj q=>?_),fun d=>?_⟩
 ·rcases (Cb hn WW rE).1 (jP.1 hd) with e|⟨-,h1⟩
  ·exact ky hx hv (e▸q)
  ·exact bj (by rw[dY h.once hv hu q h1])
 ·rw[Am h.keys hu rfl,jP,Cb hn WW rE,cn];constructor
  ·rintro ((h1|⟨h1,h2⟩)|⟨v,hv,bj,hd⟩)
   ·exact .inl h1
   ·exact .inr ⟨h1,u,hu,h2⟩
   ·exact .inr ⟨fun e=>bj (by rw[dY h.once hv hu hd (e▸WW)]),v,hv,hd⟩
  ·rintro (h1|⟨bj,v,hv,hd⟩)
   ·exact .inl (.inl h1)
   ·by_cases e:v.1=u.1
    ·exact .inl (.inr ⟨bj,by rw[←fi h.keys hv hu e];exact hd⟩)
    ·exact .inr ⟨v,hv,e,hd⟩
theorem yW.ins {V:List VS} (h:yW V) {c:Nm × D} {x:D} (hc:bu V c.1=τ) (hx:bX V x=ρ):yW (cO V c x)∧∀d,bX (cO V c x) d=τ↔d=x∨bX V d=τ:=by
 obtain⟨u,hu,hcu⟩:=db.1 hc;have hn:=iJ h.once hu;have rE:=ky hx hu;unfold cO;rw[←hcu,fI h.keys hu]
 refine⟨h.at_ (kS (wB hn rE)) (mV (wB hn rE)) (fun d hd v hv bj q=>?_),fun d=>?_⟩
 ·rcases (yr rE).1 (jP.1 hd) with e|h1
  ·exact ky hx hv (e▸q)
  ·exact bj (by rw[dY h.once hv hu q h1])
 ·rw[Am h.keys hu rfl,jP,yr rE,cn];constructor
  ·rintro ((h1|h2)|⟨v,hv,bj,hd⟩)
   ·exact .inl h1
   ·exact .inr ⟨u,hu,h2⟩
   ·exact .inr ⟨v,hv,hd⟩
  ·rintro (h1|⟨v,hv,hd⟩)
   ·exact .inl (.inl h1)
   ·by_cases e:v.1=u.1
    ·exact .inl (.inr (by rw[←fi h.keys hv hu e];exact hd))
    ·exact .inr ⟨v,hv,e,hd⟩
theorem mM {V W:List VS} (h:od (fun v:VS=>v.1) V) (e:W.map (·.1)=V.map (·.1)):od (fun v:VS=>v.1) W:=by
 unfold od at h ⊢;have h1:(V.map (·.1)).Pairwise (fun a b=>dW a b<0):=Jbg.2 h;rw[←e] at h1;exact Jbg.1 h1
theorem ik (V:List VS) (o x:D):(dL V o x).map (·.1)=V.map (·.1):=lI _ _ _
theorem xb (V:List VS) (x:D):(iU V x).map (·.1)=V.map (·.1):=lI _ _ _
theorem iw (V:List VS) (c:Nm × D) (x:D):(cO V c x).map (·.1)=V.map (·.1):=lI _ _ _
theorem tO {V W:List VS} (e:W.map (·.1)=V.map (·.1)) (x:Nm):bu W x=bu V x:=by
 have h:∀U:List VS,bu U x=(U.map (·.1)).any (fun k=>decide (k=x)):=fun U=>by
  unfold bu pf;rw[List.any_map];rfl
 rw[h,h,e]
theorem dx.mk_ {V:List VS} {E:List EC} {G:List Gn} (hv:od (fun v:VS=>v.1) V) (he:od (fun e:EC=>e.1) E) (hr:yW V) (hk:∀d,bX V d=τ→bI E (dI d)=τ∧(d.2.2=0∨d.2.2=1)) (hen:∀x,bI E x=τ→bX V (bh x 0)=τ∧bX V (bh x 1)=τ):dx (V,E,G):=
 ⟨hv,he,hr.once,hr.turned,fun v h d hd=>hk d (cn.2 ⟨v,h,hd⟩),fun e h=>hen e.1 (db.2 ⟨e,h,rfl⟩)⟩
theorem dx.std {S:SS} (h:dx S) {d:D} (hd:bX S.1 d=τ):bI S.2.1 (dI d)=τ∧(d.2.2=0∨d.2.2=1):=by
 obtain⟨v,hv,hd⟩:=cn.1 hd;exact h.known v hv d hd
theorem dx.end_ {S:SS} (h:dx S) {x:Nm} (hx:bI S.2.1 x=τ):bX S.1 (bh x 0)=τ∧bX S.1 (bh x 1)=τ:=by
 obtain⟨e,he,rfl⟩:=db.1 hx;exact h.ends e he
theorem dx.no_ {S:SS} (h:dx S) {d:D} (hx:bI S.2.1 (dI d)=ρ):bX S.1 d=ρ:=by
 cases hq:bX S.1 d with
 |false=>rfl
 |true=>have:=(h.std hq).1;rw[hx] at this;cases this
theorem nG {d:D} {x:Nm} {s:Int} (h1:dI d=x) (h2:d.2.2=s):d=bh x s:=by
 obtain⟨a,b,c⟩:=d;subst h1;subst h2;rfl
theorem pH {E:List EC} {x y:Nm}:bI (jX E x) y=τ↔y≠x∧bI E y=τ:=by
 unfold bI jX;rw[db,db];constructor
 ·rintro⟨e,he,rfl⟩;obtain⟨h1,h2⟩:=JaC.1 he;exact⟨of_decide_eq_true h2,e,h1,rfl⟩
 ·rintro⟨bj,e,he,rfl⟩;exact⟨e,JaC.2 ⟨he,decide_eq_true bj⟩,rfl⟩
theorem j5 {E:List EC} {e:EC} {y:Nm}:bI (gH E e) y=τ↔y=e.1∨bI E y=τ:=by
 unfold bI gH;rw[db,db];constructor
 ·rintro⟨u,hu,rfl⟩;rcases cy.1 hu with rfl|h
  ·exact .inl rfl
  ·exact .inr ⟨u,h,rfl⟩
 ·rintro (rfl|⟨u,hu,rfl⟩)
  ·exact⟨e,cy.2 (.inl rfl),rfl⟩
  ·exact⟨u,cy.2 (.inr hu),rfl⟩
theorem dx.unlink {S:SS} (h:dx S) {x:Nm} (hx:bI S.2.1 x=τ) (G:List Gn):dx (iU (iU S.1 (bh x 0)) (bh x 1),jX S.2.1 x,G):=by
 obtain⟨h0,h1⟩:=h.end_ hx;obtain⟨r1,m1⟩:=h.rg.rem h0
 have bj:bh x 1≠bh x 0:=fun e=>by
  have:(1:Int)=0:=congrArg (fun d:D=>d.2.2) e
  omega
 obtain⟨r2,m2⟩:=r1.rem ((m1 _).2 ⟨bj,h1⟩);refine dx.mk_ (mM h.vup (by rw[xb,xb])) (sF h.eup) r2 (fun d hd=>?_) (fun y hy=>?_)
 ·obtain⟨n1,hd⟩:=(m2 d).1 hd;obtain⟨n0,hd⟩:=(m1 d).1 hd;obtain⟨k1,k2⟩:=h.std hd
  refine⟨pH.2 ⟨fun e=>?_,k1⟩,k2⟩
  rcases k2 with k2|k2
  ·exact n0 (nG e k2)
  ·exact n1 (nG e k2)
 ·obtain⟨F6,hy⟩:=pH.1 hy;obtain⟨q0,q1⟩:=h.end_ hy;have ned:∀s t:Int,bh y s≠bh x t:=fun s t e=>F6 (congrArg dI e)
  exact⟨(m2 _).2 ⟨ned _ _,(m1 _).2 ⟨ned _ _,q0⟩⟩,(m2 _).2 ⟨ned _ _,(m1 _).2 ⟨ned _ _,q1⟩⟩⟩
theorem zz {α:Type} {k:α→Nm} (v:α):∀l:List α,(kq k l v).Perm (v::l)
 |[]=>List.Perm.refl _
 |u::l=>by
  rw[kq];split
  ·exact List.Perm.refl _
  ·exact((zz v l).cons u).trans (List.Perm.swap v u l)
theorem yW.new {V:List VS} (h:yW V) {x:Nm} {l:List D} {t:ByteArray × Int} (hx:bu V x=ρ) (hl:l.Nodup) (ht:aM l=l) (hd:∀d∈l,bX V d=ρ):
 yW (fx V (x,l,t))∧∀d,bX (fx V (x,l,t)) d=τ↔d∈l∨bX V d=τ:=by
 have hp:=zz (k:=fun v:VS=>v.1) (x,l,t) V
 refine⟨⟨?_,?_,fun v hv=>?_⟩,fun d=>?_⟩
 ·unfold fx;rw[(hp.map (·.1)).nodup_iff,ι,JaJ]
  refine⟨fun q=>?_,h.keys⟩
  obtain⟨v,hv,e⟩:=Α.1 q;exact gY.1 hx v hv e
 ·unfold fx;rw[(hp.flatMap_right _).nodup_iff,Jby,JaL]
  refine⟨hl,h.once,fun a ha b hb e=>?_⟩
  obtain⟨v,hv,Wc⟩:=Jat.1 hb;exact ky (hd a ha) hv (e▸Wc)
 ·rcases cy.1 hv with rfl|hv
  ·exact ht
  ·exact h.turned v hv
 ·rw[cn,cn];constructor
  ·rintro⟨v,hv,hd⟩;rcases cy.1 hv with rfl|hv
   ·exact .inl hd
   ·exact .inr ⟨v,hv,hd⟩
  ·rintro (hd|⟨v,hv,hd⟩)
   ·exact⟨_,cy.2 (.inl rfl),hd⟩
   ·exact⟨v,cy.2 (.inr hv),hd⟩
theorem vw {α β:Type} {f:α→List β} {p:α→Bool}:∀l:List α,((l.filter p).flatMap f).Sublist (l.flatMap f)
 |[]=>List.Sublist.refl _
 |a::l=>by
  rw[Jby]
  by_cases h:p a=τ
  ·rw[List.filter_cons_of_pos h,Jby];exact(List.Sublist.refl _).append (vw l)
  ·rw[List.filter_cons_of_neg h];exact(vw l).trans (List.sublist_append_right _ _)
theorem yW.cut {V:List VS} (h:yW V) {u:VS} (hu:u∈V):yW (dM V u.1)∧∀d,bX (dM V u.1) d=τ↔¬d∈u.2.1∧bX V d=τ:=by
 have hs:(dM V u.1).Sublist V:=List.filter_sublist
 refine⟨⟨(hs.map _).nodup h.keys,(vw _).nodup h.once,fun v hv=>h.turned v (hs.subset hv)⟩,fun d=>?_⟩
 rw[cn,cn];constructor
 ·rintro⟨v,hv,hd⟩;obtain⟨h1,h2⟩:=JaC.1 hv;exact⟨fun q=>of_decide_eq_true h2 (by rw[dY h.once h1 hu hd q]),v,h1,hd⟩
 ·rintro⟨hn,v,hv,hd⟩
  refine⟨v,JaC.2 ⟨hv,decide_eq_true (fun e=>hn ?_)⟩,hd⟩
  rw[←fi h.keys hv hu e];exact hd
theorem Oa {x y:Nm} (h:¬x=y) (s t:Int):¬bh x s=bh y t:=fun e=>h (congrArg dI e)
theorem kV {x:Nm} {s t:Int} (h:¬s=t):¬bh x s=bh x t:=fun e=>h (congrArg (fun d:D=>d.2.2) e)
theorem tD {a b:D} (h:¬a=b):[a,b].Nodup:=by simp[h]
theorem Mp {a b:D} (h:¬a=b):aM (aM [a,b])=aM [a,b]:=mV (tD h)
theorem Gv {V:List VS} {v:VS} (h:od (fun v:VS=>v.1) V) (hx:bu V v.1=ρ):od (fun v:VS=>v.1) (fx V v):=wC h (gY.1 hx)
theorem Dh {E:List EC} {e:EC} (h:od (fun e:EC=>e.1) E) (hx:bI E e.1=ρ):od (fun e:EC=>e.1) (gH E e):=wC h (gY.1 hx)
theorem dx.addV {S:SS} (h:dx S) {x:Nm} {t:ByteArray × Int} (hx:bu S.1 x=ρ):dx (fx S.1 (x,[],t),S.2):=by
 obtain⟨r,m⟩:=h.rg.new (l:=[]) (t:=t) hx List.nodup_nil rfl (fun d hd=>(by cases hd));have m':∀d,bX (fx S.1 (x,[],t)) d=τ↔bX S.1 d=τ:=fun d=>by rw[m d];simp
 exact dx.mk_ (E:=S.2.1) (G:=S.2.2) (Gv h.vup hx) h.eup r (fun d hd=>h.std ((m' d).1 hd)) (fun y hy=>⟨(m' _).2 (h.end_ hy).1,(m' _).2 (h.end_ hy).2⟩)
theorem dx.remV {S:SS} (h:dx S) {u:VS} (hu:u∈S.1) (hr:u.2.1=[]):dx (dM S.1 u.1,S.2):=by
 obtain⟨r,m⟩:=h.rg.cut hu;have m':∀d,bX (dM S.1 u.1) d=τ↔bX S.1 d=τ:=fun d=>by rw[m d,hr];simp
 exact dx.mk_ (E:=S.2.1) (G:=S.2.2) (sF h.vup) h.eup r (fun d hd=>h.std ((m' d).1 hd)) (fun y hy=>⟨(m' _).2 (h.end_ hy).1,(m' _).2 (h.end_ hy).2⟩)
theorem dx.link {S:SS} (h:dx S) {x:Nm} {a b:Nm × D} {t:ByteArray × Int} (hx:bI S.2.1 x=ρ) (ha:bu S.1 a.1=τ) (hb:bu S.1 b.1=τ) (G:List Gn):
 dx (cO (cO S.1 a (bh x 0)) b (bh x 1),gH S.2.1 (x,t),G):=by
 have h0:=h.no_ (d:=bh x 0) hx;have h1:=h.no_ (d:=bh x 1) hx;obtain⟨r1,m1⟩:=h.rg.ins ha h0
 have h1':bX (cO S.1 a (bh x 0)) (bh x 1)=ρ:=by
  cases hq:bX (cO S.1 a (bh x 0)) (bh x 1) with
  |false=>rfl
  |true=>
   rcases (m1 _).1 hq with e|e
   ·exact absurd e (kV (by decide))
   ·rw[h1] at e;cases e
 obtain⟨r2,m2⟩:=r1.ins (c:=b) (by rw[tO (iw _ _ _)];exact hb) h1';refine dx.mk_ (mM h.vup (by rw[iw,iw])) (Dh h.eup hx) r2 (fun d hd=>?_) (fun y hy=>?_)
 ·rcases (m2 d).1 hd with rfl|hd
  ·exact⟨j5.2 (.inl rfl),.inr rfl⟩
  ·rcases (m1 d).1 hd with rfl|hd
   ·exact⟨j5.2 (.inl rfl),.inl rfl⟩
   ·exact⟨j5.2 (.inr (h.std hd).1),(h.std hd).2⟩
 ·rcases j5.1 hy with rfl|hy
  ·exact⟨(m2 _).2 (.inr ((m1 _).2 (.inl rfl))),(m2 _).2 (.inl rfl)⟩
  ·exact⟨(m2 _).2 (.inr ((m1 _).2 (.inr (h.end_ hy).1))),(m2 _).2 (.inr ((m1 _).2 (.inr (h.end_ hy).2)))⟩
theorem dx.split {S:SS} (h:dx S) {x nw ot:Nm} {s t:Int} {p q:ByteArray × Int} (hx:bI S.2.1 x=τ) (hn:bu S.1 nw=ρ) (ho:bI S.2.1 ot=ρ) (hs:s=0∨s=1) (ht:t=0∨t=1) (G:List Gn):
 dx (fx (dL S.1 (bh x s) (bh ot (1 - t))) (nw,aM [bh x s,bh ot t],p),gH S.2.1 (ot,q),G):=by
 have bj:¬x=ot:=fun e=>by rw[e,ho] at hx;cases hx
 have hm:bX S.1 (bh x s)=τ:=by rcases hs with rfl|rfl;exact(h.end_ hx).1;exact(h.end_ hx).2
 have hk:∀r,bX S.1 (bh ot r)=ρ:=fun r=>h.no_ (d:=bh ot r) ho
 obtain⟨r1,m1⟩:=h.rg.swp hm (hk (1 - t))
 have h1:bX (dL S.1 (bh x s) (bh ot (1 - t))) (bh x s)=ρ:=by
  cases hq:bX (dL S.1 (bh x s) (bh ot (1 - t))) (bh x s) with
  |false=>rfl
  |true=>
   rcases (m1 _).1 hq with e|e
   ·exact absurd e (Oa bj _ _)
   ·exact absurd rfl e.1
 have h2:bX (dL S.1 (bh x s) (bh ot (1 - t))) (bh ot t)=ρ:=by
  cases hq:bX (dL S.1 (bh x s) (bh ot (1 - t))) (bh ot t) with
  |false=>rfl
  |true=>
   rcases (m1 _).1 hq with e|e
   ·exact absurd e (kV (by omega))
   ·rw[hk] at e;exact absurd e.2 (by decide)
 have Pn:¬bh x s=bh ot t:=Oa bj _ _
 obtain⟨r2,m2⟩:=r1.new (x:=nw) (l:=aM [bh x s,bh ot t]) (t:=p) (by rw[tO (ik _ _ _)];exact hn) (kS (tD Pn)) (Mp Pn) (fun d hd=>by
  have hd:=jP.1 hd;simp only[Η,Jbh,or_false] at hd;rcases hd with rfl|rfl
  ·exact h1
  ·exact h2)
 have m:∀d,bX (fx (dL S.1 (bh x s) (bh ot (1 - t))) (nw,aM [bh x s,bh ot t],p)) d=τ↔d=bh ot t∨d=bh ot (1 - t)∨bX S.1 d=τ:=fun d=>by
  rw[m2,jP,m1];simp only[Η,Jbh,or_false];constructor
  ·rintro ((e|e)|e|⟨-,e⟩)
   ·exact .inr (.inr (e▸hm))
   ·exact .inl e
   ·exact .inr (.inl e)
   ·exact .inr (.inr e)
  ·rintro (e|e|e)
   ·exact .inl (.inr e)
   ·exact .inr (.inl e)
   ·by_cases e2:d=bh x s
    ·exact .inl (.inl e2)
    ·exact .inr (.inr ⟨e2,e⟩)
 refine dx.mk_ (Gv (mM h.vup (ik _ _ _)) (by rw[tO (ik _ _ _)];exact hn)) (Dh h.eup ho) r2 (fun d hd=>?_) (fun y hy=>?_)
 ·rcases (m d).1 hd with rfl|rfl|hd
  ·exact⟨j5.2 (.inl rfl),ht⟩
  ·exact⟨j5.2 (.inl rfl),by show 1 - t=0∨1 - t=1;omega⟩
  ·exact⟨j5.2 (.inr (h.std hd).1),(h.std hd).2⟩
 ·rcases j5.1 hy with e9|hy
  ·have e9:y=ot:=e9;rw[e9]
   have e:∀r:Int,r=0∨r=1→bX (fx (dL S.1 (bh x s) (bh ot (1 - t))) (nw,aM [bh x s,bh ot t],p)) (bh ot r)=τ:=fun r hr=>(m _).2 (by
    by_cases e:r=t
    ·exact .inl (by rw[e])
    ·exact .inr (.inl (by rw[show r=1 - t by omega])))
   exact⟨e 0 (.inl rfl),e 1 (.inr rfl)⟩
  ·exact⟨(m _).2 (.inr (.inr (h.end_ hy).1)),(m _).2 (.inr (.inr (h.end_ hy).2))⟩
theorem mB {l:List D} {ot:Nm} {a b:D} (h:jn l ot=ζ (a,b)):(l=[a,b]∨l=[b,a])∧¬dI a=dI b∧dI b=ot:=by
 unfold jn at h;split at h
 ·rename_i p q;split at h
  ·cases h
  ·rename_i bj;split at h
   ·rename_i e;simp only[Jae.injEq,Jba] at h;obtain⟨rfl,rfl⟩:=h;exact⟨.inr rfl,fun q=>bj q.symm,e⟩
   ·split at h
    ·rename_i e;simp only[Jae.injEq,Jba] at h;obtain⟨rfl,rfl⟩:=h;exact⟨.inl rfl,bj,e⟩
    ·cases h
 ·cases h
theorem dx.smooth {S:SS} (h:dx S) {u:VS} (hu:u∈S.1) {ot:Nm} {a b:D} (hm:jn u.2.1 ot=ζ (a,b)) (G:List Gn):
 dx (dL (dM S.1 u.1) (b.1,b.2.1,1 - b.2.2) a,jX S.2.1 ot,G):=by
 obtain⟨hl,bj,hb⟩:=mB hm;have eE:∀d,d∈u.2.1↔d=a∨d=b:=fun d=>by rcases hl with e|e<;>rw[e]<;>simp[or_comm]
 have sa:bX S.1 a=τ:=cn.2 ⟨u,hu,(eE a).2 (.inl rfl)⟩;have sb:bX S.1 b=τ:=cn.2 ⟨u,hu,(eE b).2 (.inr rfl)⟩;obtain⟨kb,tb⟩:=h.std sb;rw[hb] at kb;have ef:((b.1,b.2.1,1 - b.2.2):D)=bh ot (1 - b.2.2):=by rw[←hb];rfl
 have eb:b=bh ot b.2.2:=nG hb rfl;have hao:¬dI a=ot:=fun e=>bj (e.trans hb.symm)
 rw[ef];obtain⟨r1,m1⟩:=h.rg.cut hu;have hfa:¬bh ot (1 - b.2.2)=a:=fun e=>hao (by rw[←e];rfl)
 have hfb:¬bh ot (1 - b.2.2)=b:=fun e=>by
  have:(1:Int) - b.2.2=b.2.2:=congrArg (fun d:D=>d.2.2) e
  omega
 have sf:bX S.1 (bh ot (1 - b.2.2))=τ:=by
  rcases tb with e|e<;>rw[e]
  ·exact(h.end_ kb).2
  ·exact(h.end_ kb).1
 have c1:bX (dM S.1 u.1) (bh ot (1 - b.2.2))=τ:=(m1 _).2 ⟨fun q=>by rcases (eE _).1 q with e|e;exact hfa e;exact hfb e,sf⟩
 have c2:bX (dM S.1 u.1) a=ρ:=by
  cases hq:bX (dM S.1 u.1) a with
  |false=>rfl
  |true=>exact absurd ((eE a).2 (.inl rfl)) ((m1 _).1 hq).1
 obtain⟨r2,m2⟩:=r1.swp c1 c2
 have m:∀d,bX (dL (dM S.1 u.1) (bh ot (1 - b.2.2)) a) d=τ↔bX S.1 d=τ∧¬dI d=ot:=fun d=>by
  rw[m2,m1,eE];constructor
  ·rintro (e|⟨e1,e2,e3⟩)
   ·rw[e];exact⟨sa,hao⟩
   ·refine⟨e3,fun q=>?_⟩
    have hs:=(h.std e3).2
    by_cases q2:d.2.2=b.2.2
    ·exact e2 (.inr (by rw[eb];exact nG q q2))
    ·exact e1 (nG q (by omega))
  ·rintro⟨e1,e2⟩
   by_cases e:d=a
   ·exact .inl e
   ·exact .inr ⟨fun q=>e2 (by rw[q];rfl),fun q=>by rcases q with q|q;exact e q;exact e2 (by rw[q];exact hb),e1⟩
 refine dx.mk_ (mM (sF h.vup) (ik _ _ _)) (sF h.eup) r2 (fun d hd=>?_) (fun y hy=>?_)
 ·obtain⟨e1,e2⟩:=(m d).1 hd;exact⟨pH.2 ⟨e2,(h.std e1).1⟩,(h.std e1).2⟩
 ·obtain⟨e1,e2⟩:=pH.1 hy;exact⟨(m _).2 ⟨(h.end_ e2).1,e1⟩,(m _).2 ⟨(h.end_ e2).2,e1⟩⟩
section
variable {α:Type} {k:α→Nm}
def dX (k:α→Nm) (l:List α) (x:Nm):Int:=if pf k l x=τ then(l.findIdx (fun v=>decide (k v=x)):Int) else -1
theorem dH {l:List α} {x:Nm} (h:pf k l x=ρ):dX k l x= -1:=by unfold dX;rw[h];rfl
theorem ck {l:List α} {x:Nm} (h:pf k l x=τ):∃(i:Nat) (v:α),dX k l x=(i:Int)∧l[i]? =ζ v∧k v=x∧i<l.length:=by
 obtain⟨v,hv,e⟩:=db.1 h;have hi:l.findIdx (fun v=>decide (k v=x))<l.length:=List.findIdx_lt_length_of_exists ⟨v,hv,decide_eq_true e⟩
 refine⟨_,l[l.findIdx (fun v=>decide (k v=x))],by unfold dX;rw[if_pos h],θ hi,?_,hi⟩
 exact of_decide_eq_true (List.findIdx_getElem (w:=hi))
theorem Is {l:List α} {x:Nm} {i:Nat} {v:α} (hv:l[i]? =ζ v) (e:k v=x) (hn:∀t u,l[t]? =ζ u→t<i→¬k u=x):dX k l x=(i:Int):=by
 have h:pf k l x=τ:=db.2 ⟨v,ω hv,e⟩;obtain⟨hi,ZJ⟩:=ν.1 hv;unfold dX;rw[if_pos h,(List.findIdx_eq hi).2 ⟨by rw[ZJ];exact decide_eq_true e,fun j hj=>decide_eq_false (hn j _ (θ (by omega)) hj)⟩]
end
theorem Bw {S:SS} (h:dx S) {x:Nm} (hx:bI S.2.1 x=τ):rings (rings S.1 (fun l=>aM (jy l (bh x 0)))) (fun l=>aM (jy l (bh x 1)))=iU (iU S.1 (bh x 0)) (bh x 1):=by
 obtain⟨h0,h1⟩:=h.end_ hx;rw[nL h.rg.keys h.rg.once h.rg.turned h0];obtain⟨r1,m1⟩:=h.rg.rem h0;exact nL r1.keys r1.once r1.turned ((m1 _).2 ⟨kV (by decide),h1⟩)
theorem qM {S:SS} (h:dx S) {u:VS} (hu:u∈S.1) {ot:Nm} {a b:D} (hm:jn u.2.1 ot=ζ (a,b)):(b=bh ot 0∨b=bh ot 1)∧((b.1,b.2.1,1 - b.2.2):D)=bh ot (1 - b.2.2)∧bX (dM S.1 u.1) (b.1,b.2.1,1 - b.2.2)=τ:=by
 obtain⟨hl,bj,hb⟩:=mB hm;have eE:∀d,d∈u.2.1↔d=a∨d=b:=fun d=>by rcases hl with e|e<;>rw[e]<;>simp[or_comm]
 have sb:bX S.1 b=τ:=cn.2 ⟨u,hu,(eE b).2 (.inr rfl)⟩;obtain⟨kb,tb⟩:=h.std sb;rw[hb] at kb;have ef:((b.1,b.2.1,1 - b.2.2):D)=bh ot (1 - b.2.2):=by rw[←hb];rfl
 refine⟨by rcases tb with e|e;exact .inl (nG hb e);exact .inr (nG hb e),ef,?_⟩
 rw[ef]
 refine((h.rg.cut hu).2 _).2 ⟨fun q=>?_,by rcases tb with e|e<;>rw[e];exact(h.end_ kb).2;exact(h.end_ kb).1⟩
 rcases (eE _).1 q with e|e
 ·exact bj (by rw[←e,hb];rfl)
 ·have:(1:Int) - b.2.2=b.2.2:=congrArg (fun d:D=>d.2.2) e
  omega
theorem Ac {S:SS} (h:dx S) {u:VS} (hu:u∈S.1) {ot:Nm} {a b:D} (hm:jn u.2.1 ot=ζ (a,b)):rings (dM S.1 u.1) (fun l=>aM (j4 l (b.1,b.2.1,1 - b.2.2) a))=dL (dM S.1 u.1) (b.1,b.2.1,1 - b.2.2) a:=by
 have r1:=(h.rg.cut hu).1;exact yz r1.keys r1.once r1.turned (qM h hu hm).2.2
theorem uF {ot:Nm} {b:D} (hb:b=bh ot 0∨b=bh ot 1) {s:Int} (hs:s=0∨s=1) {a:D}:(if bh ot s=b then zD else a)=if bh ot s=bh ot (1 - b.2.2) then a else zD:=by
 have e0:1 - (bh ot 0).2.2=1:=rfl;have e1:1 - (bh ot 1).2.2=0:=rfl;rcases hb with rfl|rfl<;>rcases hs with rfl|rfl
 ·rw[e0,if_pos rfl,if_neg (kV (by decide))]
 ·rw[e0,if_neg (kV (by decide)),if_pos rfl]
 ·rw[e1,if_neg (kV (by decide)),if_pos rfl]
 ·rw[e1,if_pos rfl,if_neg (kV (by decide))]
theorem SO (Vs:List VC) (x:D):lE Vs x=(D4 (Vs.map vS) x,bX (Vs.map vS) x):=by
 induction Vs with
 |nil=>rfl
 |cons v Vs ih=>
  by_cases h:x∈v.2.1.2.2.2
  ·have e1:lE (v::Vs) x=(v.1,τ):=by unfold lE;rw[List.find?_cons_of_pos (by exact decide_eq_true h)]
   have e2:D4 ((v::Vs).map vS) x=v.1:=by unfold D4;rw[ι,List.find?_cons_of_pos (by exact decide_eq_true h)];rfl
   have e3:bX ((v::Vs).map vS) x=τ:=cn.2 ⟨vS v,by simp,h⟩;rw[e1,e2,e3]
  ·have e1:lE (v::Vs) x=lE Vs x:=by unfold lE;rw[List.find?_cons_of_neg (by simpa using h)]
   have e2:D4 ((v::Vs).map vS) x=D4 (Vs.map vS) x:=by unfold D4;rw[ι,List.find?_cons_of_neg (by show ¬decide (x∈v.2.1.2.2.2)=τ;simpa using h)]
   have e3:bX ((v::Vs).map vS) x=bX (Vs.map vS) x:=by
    unfold bX;rw[ι,List.any_cons]
    show(decide (x∈v.2.1.2.2.2)||_)=_
    rw[decide_eq_false h];rfl
   rw[e1,e2,e3,ih]
theorem YJ (Vs:List VC):xW Vs=bX (Vs.map vS):=funext (fun x=>by unfold xW;rw[SO])
theorem tK (Vs:List VC) (x:Nm):(eP Vs x).2=bu (Vs.map vS) x∧(eP Vs x).1.2.1.2.2.2=eS (Vs.map vS) x:=by
 induction Vs with
 |nil=>exact⟨rfl,rfl⟩
 |cons v Vs ih=>
  by_cases h:v.1=x
  ·have e1:eP (v::Vs) x=(v,τ):=sE _ _ _ _ _ h;have e2:eS ((v::Vs).map vS) x=v.2.1.2.2.2:=by unfold eS;rw[ι,List.find?_cons_of_pos (by exact decide_eq_true h)];rfl
   have e3:bu ((v::Vs).map vS) x=τ:=db.2 ⟨vS v,by simp,h⟩;rw[e1,e2,e3];exact⟨rfl,rfl⟩
  ·have e1:eP (v::Vs) x=eP Vs x:=wP _ _ _ _ _ h;have e2:eS ((v::Vs).map vS) x=eS (Vs.map vS) x:=by unfold eS;rw[ι,List.find?_cons_of_neg (by show ¬decide (v.1=x)=τ;simpa using h)]
   have e3:bu ((v::Vs).map vS) x=bu (Vs.map vS) x:=by
    unfold bu pf;rw[ι,List.any_cons]
    show(decide (v.1=x)||_)=_
    rw[decide_eq_false h];rfl
   rw[e1,e2,e3];exact ih
theorem Ho (Vs:List VC) (G:List Gn) (v:Nm) (a:D):rP Vs G G.length v a=(lz (Vs.map vS) G (v,a)).2:=by
 unfold rP lz;rw[YJ,(tK Vs v).2]
theorem iB (Vs:List VC):(Vs.map vS).map (·.1)=Vs.map (·.1):=by rw[JaW];rfl
theorem Qq (Vs:List VC):(Vs.map vS).flatMap (fun v=>v.2.1)=Vs.flatMap (fun v=>v.2.1.2.2.2):=by rw[List.flatMap_map];rfl
theorem Ly (bx:Nat) (x1 x2:Int) (v:VC) (w:ο) (h:Whole w bx 30 [J x1,J x2]):Ζ η 134 #[φ (vC v).toArray,υ (ζ ⟨bx,0,ε⟩)] w fun e w'=>e=.returned (Β (decide (v.1=(x1,x2))))∧σ w.heap.size w w':=by
 obtain⟨⟨i1,i2⟩,⟨rA,rn,rc,rL⟩,lb,at_⟩:=v;show Ζ η 134 #[φ #[J i1,J i2,γ rA rn rc,μ lb,J at_],υ (ζ ⟨bx,0,ε⟩)] w fun e w'=>e=.returned (Β (decide ((i1,i2)=(x1,x2))))∧σ w.heap.size w w'
 have hx:=h.al (δ #[J i1,J i2,γ rA rn rc,μ lb,J at_] 59);have c0:=hx.cell (i:=0) rfl;have c1:=hx.cell (i:=1) rfl;have hB:=qh (az w (δ #[J i1,J i2,γ rA rn rc,μ lb,J at_] 59));clear h hx
 by_cases h1:i1=x1
 ·subst h1
  by_cases h2:i2=x2
  ·subst h2;go_enter Tryz.func134,Tryz.ntmps134;go_wp2;go_ret;exact⟨by simp,hB.out⟩
  ·go_enter Tryz.func134,Tryz.ntmps134;go_wp2;go_ret;exact⟨by simp[h2],hB.out⟩
 ·go_enter Tryz.func134,Tryz.ntmps134;go_wp2;go_ret;exact⟨by simp[h1],hB.out⟩
theorem JI (A:Option Κ) (n c bx:Nat) (x1 x2:Int) (Vs:List VC) (w:ο) (h:bg w w.heap.size 5 A n c (ah vC Vs)) (hx:Whole w bx 30 [J x1,J x2]) (hn:n≤1000000):
 Ζ η 133 #[γ A n c,.func (.func 134) #[] #[υ (ζ ⟨bx,0,ε⟩)]] w fun e w'=>e=.returned (J (dX (fun v:VC=>v.1) Vs (x1,x2)))∧σ w.heap.size w w':=by
 have H:=qh h;have HX:=qh hx;have Hl:=qh (h.rlen aS (by decide));have he:M8 134:=nH Tryz.func134 (by kernel_rfl) rfl;clear h hx;go_enter Tryz.func133,Tryz.ntmps133;go_wp2;go_loopw [8] (fun i wr=>∃k:Nat,k≤n∧i=J (k:Int)∧Hid (∀t u,Vs[t]? =ζ u→t<k→¬u.1=(x1,x2))∧Hid (σ w.heap.size w wr)) (fun i _=>n - (intOf i).toNat)
 case atStart=>exact⟨0,Jas _,rfl,qh (fun t u _ h=>absurd h (Nat.not_lt_zero t)),qh (Θ _ _)⟩
 case round=>
  obtain⟨k,hk,rfl,HN,HB⟩:=hrel;obtain⟨wo,cS⟩:=aB wr;rw[cS] at HB ⊢;clear cS
  by_cases dz:k<n
  ·obtain⟨v,hv⟩:∃v,Vs[k]? =ζ v:=⟨_,θ (by have:=Hl.out;omega)⟩
   have hR:=H.out.bl HB.out;obtain⟨b,off,rfl,aY,a8⟩:=hR.place aS (by decide) (by omega);have hp:=a8 k v hv;have HV:=qh hv;have RG:(k:Int)<(n:Int):=by omega
   have HC:=qh (Ly bx x1 x2 v wo (HX.out.bl HB.out))
   have Hn1:Hid (¬v.1=(x1,x2)→∀t u,Vs[t]? =ζ u→t<k+1→¬u.1=(x1,x2)):=qh (fun bj t u ht dz=>by
    rcases JaM t k with h1|h1
    ·exact HN.out t u ht h1
    ·obtain rfl:t=k:=by omega
     rw[HV.out] at ht;obtain rfl:=Μ ht;exact bj)
   have Hy1:Hid (v.1=(x1,x2)→dX (fun v:VC=>v.1) Vs (x1,x2)=(k:Int)):=qh (fun e=>Is HV.out e (fun t u ht dz=>HN.out t u ht dz));obtain⟨dd,Ur⟩:=aB (decide (v.1=(x1,x2)));rw[Ur] at HC;have Hd:=qh Ur;clear Ur hv a8 aY hR;obtain⟨⟨i1,i2⟩,⟨rA,rn,rc,rL⟩,lb,at_⟩:=v;have HC:Hid (Ζ η 134 #[φ #[J i1,J i2,γ rA rn rc,μ lb,J at_],υ (ζ ⟨bx,0,ε⟩)] wo fun e w'=>e=.returned (Β dd)∧σ wo.heap.size wo w'):=HC;have l0:=hp 0 _ rfl;have l1:=hp 1 _ rfl;have l2:=hp 2 _ rfl;have l3:=hp 3 _ rfl;have l4:=hp 4 _ rfl;simp only[Ν,Jac] at l0 l1 l2 l3 l4;clear hp;cases dd with
   |true=>
    have Hy:=qh (Hy1.out (of_decide_eq_true Hd.out))
    go_wp2_with (first
     |(go_at_call 134
       refine HC.out.mono ?_;rintro e w3 ⟨rfl,bA⟩;have bB:=qh (ag HB.out bA);clear bA))
    go_ret;rw[Hy.out];exact⟨rfl,bB.out⟩
   |false=>
    have Hn:=qh (Hn1.out (of_decide_eq_false Hd.out))
    go_wp2_with (first
     |(go_at_call 134
       refine HC.out.mono ?_;rintro e w3 ⟨rfl,bA⟩;have bB:=qh (ag HB.out bA);clear bA))
    go_roundw
    case rel=>exact⟨k+1,by omega,by go_num,Hn,bB⟩
    case measure=>simp[intOf];omega
  ·obtain rfl:k=n:=by omega
   have Kx:¬(k:Int)<(k:Int):=by omega
   have Hno:Hid (dX (fun v:VC=>v.1) Vs (x1,x2)= -1):=qh (dH (gY.2 (fun u hu=>by
    obtain⟨t,ht,e⟩:=Jbv hu;exact HN.out t u (by rw[θ ht,e]) (by have:=Hl.out;omega))))
   go_wp2;go_ret;rw[Hno.out];exact⟨rfl,HB.out⟩
theorem Mr (bx:Nat) (x1 x2:Int) (v:EC) (w:ο) (h:Whole w bx 30 [J x1,J x2]):Ζ η 141 #[φ (eC v).toArray,υ (ζ ⟨bx,0,ε⟩)] w fun e w'=>e=.returned (Β (decide (v.1=(x1,x2))))∧σ w.heap.size w w':=by
 obtain⟨⟨i1,i2⟩,lb,at_⟩:=v;show Ζ η 141 #[φ #[J i1,J i2,μ lb,J at_],υ (ζ ⟨bx,0,ε⟩)] w fun e w'=>e=.returned (Β (decide ((i1,i2)=(x1,x2))))∧σ w.heap.size w w'
 have hx:=h.al (δ #[J i1,J i2,μ lb,J at_] 67);have c0:=hx.cell (i:=0) rfl;have c1:=hx.cell (i:=1) rfl;have hB:=qh (az w (δ #[J i1,J i2,μ lb,J at_] 67));clear h hx
 by_cases h1:i1=x1
 ·subst h1
  by_cases h2:i2=x2
  ·subst h2;go_enter Tryz.func141,Tryz.ntmps141;go_wp2;go_ret;exact⟨by simp,hB.out⟩
  ·go_enter Tryz.func141,Tryz.ntmps141;go_wp2;go_ret;exact⟨by simp[h2],hB.out⟩
 ·go_enter Tryz.func141,Tryz.ntmps141;go_wp2;go_ret;exact⟨by simp[h1],hB.out⟩
theorem IS (A:Option Κ) (n c bx:Nat) (x1 x2:Int) (Vs:List EC) (w:ο) (h:bg w w.heap.size 4 A n c (ah eC Vs)) (hx:Whole w bx 30 [J x1,J x2]) (hn:n≤1000000):
 Ζ η 140 #[γ A n c,.func (.func 141) #[] #[υ (ζ ⟨bx,0,ε⟩)]] w fun e w'=>e=.returned (J (dX (fun v:EC=>v.1) Vs (x1,x2)))∧σ w.heap.size w w':=by
 have H:=qh h;have HX:=qh hx;have Hl:=qh (h.rlen bM (by decide));have he:M8 141:=nH Tryz.func141 (by kernel_rfl) rfl;clear h hx;go_enter Tryz.func140,Tryz.ntmps140;go_wp2;go_loopw [8] (fun i wr=>∃k:Nat,k≤n∧i=J (k:Int)∧Hid (∀t u,Vs[t]? =ζ u→t<k→¬u.1=(x1,x2))∧Hid (σ w.heap.size w wr)) (fun i _=>n - (intOf i).toNat)
 case atStart=>exact⟨0,Jas _,rfl,qh (fun t u _ h=>absurd h (Nat.not_lt_zero t)),qh (Θ _ _)⟩
 case round=>
  obtain⟨k,hk,rfl,HN,HB⟩:=hrel;obtain⟨wo,cS⟩:=aB wr;rw[cS] at HB ⊢;clear cS
  by_cases dz:k<n
  ·obtain⟨v,hv⟩:∃v,Vs[k]? =ζ v:=⟨_,θ (by have:=Hl.out;omega)⟩
   have hR:=H.out.bl HB.out;obtain⟨b,off,rfl,aY,a8⟩:=hR.place bM (by decide) (by omega);have hp:=a8 k v hv;have HV:=qh hv;have RG:(k:Int)<(n:Int):=by omega
   have HC:=qh (Mr bx x1 x2 v wo (HX.out.bl HB.out))
   have Hn1:Hid (¬v.1=(x1,x2)→∀t u,Vs[t]? =ζ u→t<k+1→¬u.1=(x1,x2)):=qh (fun bj t u ht dz=>by
    rcases JaM t k with h1|h1
    ·exact HN.out t u ht h1
    ·obtain rfl:t=k:=by omega
     rw[HV.out] at ht;obtain rfl:=Μ ht;exact bj)
   have Hy1:Hid (v.1=(x1,x2)→dX (fun v:EC=>v.1) Vs (x1,x2)=(k:Int)):=qh (fun e=>Is HV.out e (fun t u ht dz=>HN.out t u ht dz));obtain⟨dd,Ur⟩:=aB (decide (v.1=(x1,x2)));rw[Ur] at HC;have Hd:=qh Ur;clear Ur hv a8 aY hR;obtain⟨⟨i1,i2⟩,lb,at_⟩:=v;have HC:Hid (Ζ η 141 #[φ #[J i1,J i2,μ lb,J at_],υ (ζ ⟨bx,0,ε⟩)] wo fun e w'=>e=.returned (Β dd)∧σ wo.heap.size wo w'):=HC;have l0:=hp 0 _ rfl;have l1:=hp 1 _ rfl;have l2:=hp 2 _ rfl;have l3:=hp 3 _ rfl;simp only[Ν,Jac] at l0 l1 l2 l3;clear hp;cases dd with
   |true=>
    have Hy:=qh (Hy1.out (of_decide_eq_true Hd.out))
    go_wp2_with (first
     |(go_at_call 141
       refine HC.out.mono ?_;rintro e w3 ⟨rfl,bA⟩;have bB:=qh (ag HB.out bA);clear bA))
    go_ret;rw[Hy.out];exact⟨rfl,bB.out⟩
   |false=>
    have Hn:=qh (Hn1.out (of_decide_eq_false Hd.out))
    go_wp2_with (first
     |(go_at_call 141
       refine HC.out.mono ?_;rintro e w3 ⟨rfl,bA⟩;have bB:=qh (ag HB.out bA);clear bA))
    go_roundw
    case rel=>exact⟨k+1,by omega,by go_num,Hn,bB⟩
    case measure=>simp[intOf];omega
  ·obtain rfl:k=n:=by omega
   have Kx:¬(k:Int)<(k:Int):=by omega
   have Hno:Hid (dX (fun v:EC=>v.1) Vs (x1,x2)= -1):=qh (dH (gY.2 (fun u hu=>by
    obtain⟨t,ht,e⟩:=Jbv hu;exact HN.out t u (by rw[θ ht,e]) (by have:=Hl.out;omega))))
   go_wp2;go_ret;rw[Hno.out];exact⟨rfl,HB.out⟩
theorem fB (g:Nat) (A:Option Κ) (n c:Nat) (B:Option Κ) (m k:Nat) (C:Option Κ) (r rc:Nat) (x1 x2:Int) (L:List VC) (w:ο) (hg:Whole w g 28 [γ A n c,γ B m k,γ C r rc]) (h:bg w w.heap.size 5 A n c (ah vC L)) (hn:n≤1000000):
 Ζ η 110 #[υ (ζ ⟨g,0,ε⟩),φ #[J x1,J x2]] w fun e w'=>e=.returned (J (dX (fun v:VC=>v.1) L (x1,x2)))∧σ w.heap.size w w':=by
 have hx:Whole (w.alloc (δ #[J x1,J x2] 30)) w.heap.size 30 [J x1,J x2]:=Whole.new_ _ _ [_,_];have hb:=az w (δ #[J x1,J x2] 30);have hG:=hg.al (δ #[J x1,J x2] 30);have HI:=qh (JI _ _ _ _ x1 x2 L _ (h.bl hb) hx hn);have HB:=qh hb;have c0:=hG.cell (i:=0) rfl;clear hx hb hG hg h;go_enter Tryz.func110,Tryz.ntmps110
 go_wp2_with (first
  |(go_at_call 133
    refine HI.out.mono ?_;rintro e w3 ⟨rfl,bA⟩;have bB:=qh (ag HB.out bA);clear bA))
 go_ret;exact⟨rfl,bB.out⟩
theorem dG (g:Nat) (A:Option Κ) (n c:Nat) (B:Option Κ) (m k:Nat) (C:Option Κ) (r rc:Nat) (x1 x2:Int) (L:List EC) (w:ο) (hg:Whole w g 28 [γ A n c,γ B m k,γ C r rc]) (h:bg w w.heap.size 4 B m k (ah eC L)) (hn:m≤1000000):
 Ζ η 113 #[υ (ζ ⟨g,0,ε⟩),φ #[J x1,J x2]] w fun e w'=>e=.returned (J (dX (fun v:EC=>v.1) L (x1,x2)))∧σ w.heap.size w w':=by
 have hx:Whole (w.alloc (δ #[J x1,J x2] 30)) w.heap.size 30 [J x1,J x2]:=Whole.new_ _ _ [_,_];have hb:=az w (δ #[J x1,J x2] 30);have hG:=hg.al (δ #[J x1,J x2] 30);have HI:=qh (IS _ _ _ _ x1 x2 L _ (h.bl hb) hx hn);have HB:=qh hb;have c0:=hG.cell (i:=1) rfl;clear hx hb hG hg h;go_enter Tryz.func113,Tryz.ntmps113
 go_wp2_with (first
  |(go_at_call 140
    refine HI.out.mono ?_;rintro e w3 ⟨rfl,bA⟩;have bB:=qh (ag HB.out bA);clear bA))
 go_ret;exact⟨rfl,bB.out⟩
theorem Dy (v:VC) (x1 x2:Int) (w:ο):Ζ η 136 #[φ (vC v).toArray,φ #[J x1,J x2]] w fun e w'=>e=.returned (J (dW v.1 (x1,x2)))∧σ w.heap.size w w':=by
 have HO:=qh (tA v.1.1 v.1.2 x1 x2);obtain⟨o,go⟩:=aB (dW v.1 (x1,x2));have HO:Hid (∀w,Ζ η 137 #[φ #[J v.1.1,J v.1.2],φ #[J x1,J x2]] w fun e w'=>e=.returned (J o)∧σ w.heap.size w w'):=qh (by rw[←go];exact HO.out);rw[go];clear go;obtain⟨⟨i1,i2⟩,⟨rA,rn,rc,rL⟩,lb,at_⟩:=v;show Ζ η 136 #[φ #[J i1,J i2,γ rA rn rc,μ lb,J at_],φ #[J x1,J x2]] w _;have HO:Hid (∀w,Ζ η 137 #[φ #[J i1,J i2],φ #[J x1,J x2]] w fun e w'=>e=.returned (J o)∧σ w.heap.size w w'):=HO;go_enter Tryz.func136,Tryz.ntmps136
 go_wp2_with (first
  |(go_at_call 137
    refine(HO.out _).mono ?_
    rintro e w2 ⟨rfl,hb⟩;have HB:=qh (ag (aI (az w (δ #[J i1,J i2,γ rA rn rc,μ lb,J at_] 59)) (δ #[J x1,J x2] 30)) hb);clear hb))
 go_ret;exact⟨rfl,HB.out⟩
theorem Q9 (A:Option Κ) (n c:Nat) (G:List VC) (x1 x2:Int) (w:ο) (h:bg w w.heap.size 5 A n c (ah vC G)) (hn:n≤1000000) (cf:Nat→Int) (IC:∀t x,G[t]? =ζ x→dW x.1 (x1,x2)=cf t) (ku:∀a b,a≤b→b<n→cf b<0→cf a<0):
 Ζ η 135 #[γ A n c,φ #[J x1,J x2],.func (.func 136) #[] #[]] w fun e w'=>∃i:Nat,i≤n∧(∀t,t<i→cf t<0)∧(∀t,i≤t→t<n→0≤cf t)∧e=.returned (Ξ #[J (i:Int),Β (decide (i<n) && decide (cf i=0))])∧σ w.heap.size w w':=by
 have H:=qh h;have Hl:=qh (h.rlen aS (by decide));have HM:=qh ku;have he:M8 136:=nH Tryz.func136 (by kernel_rfl) rfl;clear h ku;go_enter Tryz.func135,Tryz.ntmps135;go_wp2;have lQ:=Whole.new_ w 30 [J x1,J x2];have oI:=az w (δ #[J x1,J x2] 30);obtain⟨W0,bO⟩:=aB (w.alloc (δ #[J x1,J x2] 30));replace lQ:Whole W0 w.heap.size 30 [J x1,J x2]:=bO▸lQ;rw[bO] at oI ⊢;obtain⟨b0,bp⟩:=aB w.heap.size;rw[bp] at lQ ⊢;have aQ:=qh lQ;have bw:=qh oI;clear bO bp lQ oI;go_loopw [9,10] (fun s9 Ni wr=>∃lo hi:Nat,s9=J lo∧Ni=J hi∧lo≤hi∧hi≤n∧Hid (Whole wr b0 30 [J x1,J x2])∧Hid (σ w.heap.size w wr)∧Hid ((∀t,t<lo→cf t<0)∧(∀t,hi≤t→t<n→0≤cf t))) (fun s9 Ni _=>(intOf Ni).toNat - (intOf s9).toNat)
 case atStart=>exact⟨0,n,rfl,rfl,Jas _,Δ _,aQ,bw,qh ⟨fun t ht=>absurd ht (Nat.not_lt_zero _),fun t h1 h2=>by omega⟩⟩
 case round=>
  clear aQ bw;obtain⟨lo,hi,rfl,rfl,hlh,jm,HX,HB,HI⟩:=hrel;obtain⟨wo,cS⟩:=aB wr;rw[cS] at HX HB ⊢;clear cS
  by_cases dz:lo<hi
  ·obtain⟨m,gm⟩:=aB ((lo+hi) / 2);have KZ:lo≤m:=by omega
   have O0:m<hi:=by omega
   have hmn:m<n:=by omega
   have e1:((lo:Int)+(hi:Int)) / 2=(m:Int):=by omega
   obtain⟨x,hx⟩:∃x,G[m]? =ζ x:=⟨_,θ (by have:=Hl.out;omega)⟩
   obtain⟨b,off,rfl,aY,a8⟩:=H.out.place aS (by decide) (by omega);have bC:=HB.out;have wz:=IC m x hx;have uB:=Dy x x1 x2;have hp:=a8 m x hx;obtain⟨ov,tJ⟩:=aB (dW x.1 (x1,x2));rw[tJ] at wz uB;obtain⟨⟨i1,i2⟩,⟨rA,rn,rc,rL⟩,lb,at_⟩:=x;have q0:=hp 0 _ rfl;have q1:=hp 1 _ rfl;have q2:=hp 2 _ rfl;have q3:=hp 3 _ rfl;have q4:=hp 4 _ rfl;simp only[Ν,Jac] at q0 q1 q2 q3 q4;have l0:=(bC.cell (p:=⟨b,off+m*5,ε⟩) aY).trans q0;have l1:=(bC.cell (p:=⟨b,off+m*5+1,ε⟩) aY).trans q1;have l2:=(bC.cell (p:=⟨b,off+m*5+2,ε⟩) aY).trans q2;have l3:=(bC.cell (p:=⟨b,off+m*5+3,ε⟩) aY).trans q3;have l4:=(bC.cell (p:=⟨b,off+m*5+4,ε⟩) aY).trans q4;have HC:Hid (∀w',Ζ η 136 #[φ #[J i1,J i2,γ rA rn rc,μ lb,J at_],φ #[J x1,J x2]] w' fun e bW=>e=.returned (J ov)∧σ w'.heap.size w' bW):=qh uB;have yF:Hid (ov=cf m):=qh wz;clear hx a8 hp aY bC q0 q1 q2 q3 q4 wz tJ uB;go_upto_region 5 with fail
   have fL:=cz l0;have ld1:=cz l1;have ka:=cz l2;have pV:=cz l3;have tX:=cz l4;have s6:=cm (i:=0) HX.out rfl;have sX:=cm (i:=1) HX.out rfl;clear l0 l1 l2 l3 l4
   by_cases py:ov<0
   ·have hq:decide (ov<0)=τ:=decide_eq_true py;have oF:Hid ((∀t,t<m+1→cf t<0)∧(∀t,hi≤t→t<n→0≤cf t)):=qh ⟨fun t ht=>HM.out t m (by omega) (by omega) (by rw[←yF.out];exact py),HI.out.2⟩;clear py HI yF;refine ay (aO) (by kernel_rfl) ?_;refine aa 0 ?_;refine aa 1 ?_;refine aa 2 ?_;refine aa 3 ?_;refine aa 4 ?_;refine aa 5 ?_;refine cV 6 (hy:=by apply bP;rfl;rotate_left;intro w' aC;exact HC.out w';intro w';go_simp) (h:=?_);refine aa 7 ?_;refine aF (by kernel_rfl) ?_ _;intro W3 du;have bB:=qh (ag (aN HB.out) du);have cF:=qh (HX.out.dr.bl du);clear du HB HX fL ld1 ka pV tX s6 sX HC;go_wp2;go_roundw
    case rel=>exact⟨m+1,hi,by go_num,rfl,by omega,jm,cF,bB,oF⟩
    case measure=>simp[intOf];omega
   ·have hq:decide (ov<0)=ρ:=decide_eq_false py;have oF:Hid ((∀t,t<lo→cf t<0)∧(∀t,m≤t→t<n→0≤cf t)):=qh ⟨HI.out.1,fun t ht Oz=>Int.not_lt.1 fun h=>by have:=HM.out m t ht Oz h;rw[←yF.out] at this;omega⟩;clear py HI yF;refine ay (aO) (by kernel_rfl) ?_;refine aa 0 ?_;refine aa 1 ?_;refine aa 2 ?_;refine aa 3 ?_;refine aa 4 ?_;refine aa 5 ?_;refine cV 6 (hy:=by apply bP;rfl;rotate_left;intro w' aC;exact HC.out w';intro w';go_simp) (h:=?_);refine aa 7 ?_;refine aF (by kernel_rfl) ?_ _;intro W3 du;have bB:=qh (ag (aN HB.out) du);have cF:=qh (HX.out.dr.bl du);clear du HB HX fL ld1 ka pV tX s6 sX HC;go_wp2;go_roundw
    case rel=>exact⟨lo,m,rfl,by first|rfl|go_num,by omega,by omega,cF,bB,oF⟩
    case measure=>simp[intOf];omega
  ·obtain rfl:hi=lo:=by omega
   by_cases ni:hi<n
   ·have e2:(hi:Int)<(n:Int):=by omega
    have e3:¬(hi:Int)<(hi:Int):=by omega
    obtain⟨x,hx⟩:∃x,G[hi]? =ζ x:=⟨_,θ (by have:=Hl.out;omega)⟩
    obtain⟨b,off,rfl,aY,a8⟩:=H.out.place aS (by decide) (by omega);have bC:=HB.out;have wz:=IC hi x hx;have uB:=Dy x x1 x2;have hp:=a8 hi x hx;obtain⟨ov,tJ⟩:=aB (dW x.1 (x1,x2));rw[tJ] at wz uB;obtain⟨⟨i1,i2⟩,⟨rA,rn,rc,rL⟩,lb,at_⟩:=x;have q0:=hp 0 _ rfl;have q1:=hp 1 _ rfl;have q2:=hp 2 _ rfl;have q3:=hp 3 _ rfl;have q4:=hp 4 _ rfl;simp only[Ν,Jac] at q0 q1 q2 q3 q4;have l0:=(bC.cell (p:=⟨b,off+hi*5,ε⟩) aY).trans q0;have l1:=(bC.cell (p:=⟨b,off+hi*5+1,ε⟩) aY).trans q1;have l2:=(bC.cell (p:=⟨b,off+hi*5+2,ε⟩) aY).trans q2;have l3:=(bC.cell (p:=⟨b,off+hi*5+3,ε⟩) aY).trans q3;have l4:=(bC.cell (p:=⟨b,off+hi*5+4,ε⟩) aY).trans q4;have HC:Hid (∀w',Ζ η 136 #[φ #[J i1,J i2,γ rA rn rc,μ lb,J at_],φ #[J x1,J x2]] w' fun e bW=>e=.returned (J ov)∧σ w'.heap.size w' bW):=qh uB;have yF:Hid (ov=cf hi):=qh wz;clear hx a8 hp aY bC q0 q1 q2 q3 q4 wz tJ uB;obtain⟨bq,yb⟩:=aB ((ov==0))
    have kg:(decide (hi<n) && decide (cf hi=0))=bq:=by
     rw[decide_eq_true ni,←yF.out,←yb,Bool.true_and,Bool.eq_iff_iff,decide_eq_true_iff,beq_iff_eq]
    have xG:=qh kg;clear kg;go_upto_region 8 with fail
    have fL:=cz l0;have ld1:=cz l1;have ka:=cz l2;have pV:=cz l3;have tX:=cz l4;have s6:=cm (i:=0) HX.out rfl;have sX:=cm (i:=1) HX.out rfl;clear l0 l1 l2 l3 l4;refine ay (aO) (by kernel_rfl) ?_;refine aa 0 ?_;refine aa 1 ?_;refine aa 2 ?_;refine aa 3 ?_;refine aa 4 ?_;refine aa 5 ?_;refine aa 6 ?_;refine aa 7 ?_;refine aa 8 ?_;refine aa 9 ?_;refine aa 10 ?_;refine cV 11 (hy:=by apply bP;rfl;rotate_left;intro w' aC;exact HC.out w';intro w';go_simp) (h:=?_);refine aa 12 ?_;refine aa 13 ?_;refine aa 14 ?_;refine aa 15 ?_;refine aF (by kernel_rfl) ?_ _;intro W3 du;have bB:=qh (ag (aN HB.out) du);clear du HB HX fL ld1 ka pV tX s6 sX HC;go_wp2;refine JaN (v:=Ξ #[J (hi:Int),Β bq]) (by simp[results,Tryz.results135,go_sem]) rfl ?_;exact⟨hi,jm,HI.out.1,HI.out.2,by rw[xG.out],bB.out⟩
   ·have e2:¬(hi:Int)<(n:Int):=by omega
    have e3:¬(hi:Int)<(hi:Int):=by omega
    have kg:(decide (hi<n) && decide (cf hi=0))=ρ:=by rw[decide_eq_false ni];rfl
    have xG:=qh kg;clear kg;go_upto_region 8 with fail
    refine ay (aO) (by kernel_rfl) ?_;refine aa 0 ?_;refine aa 1 ?_;refine aa 2 ?_;refine aa 3 ?_;refine aa 4 ?_;refine cp 5 ?_;refine cp 6 ?_;refine cp 7 ?_;refine cp 8 ?_;refine cp 9 ?_;refine cp 10 ?_;refine cp 11 ?_;refine cp 12 ?_;refine aa 13 ?_;refine aa 14 ?_;refine aa 15 ?_;refine aF (by kernel_rfl) ?_ _;intro W3 du;have bB:=qh (ag (aN HB.out) du);clear du HB HX;go_wp2;refine JaN (v:=Ξ #[J (hi:Int),Β ρ]) (by simp[results,Tryz.results135,go_sem]) rfl ?_;exact⟨hi,jm,HI.out.1,HI.out.2,by rw[xG.out],bB.out⟩
theorem CZ (v:EC) (x1 x2:Int) (w:ο):Ζ η 146 #[φ (eC v).toArray,φ #[J x1,J x2]] w fun e w'=>e=.returned (J (dW v.1 (x1,x2)))∧σ w.heap.size w w':=by
 have HO:=qh (tA v.1.1 v.1.2 x1 x2);obtain⟨o,go⟩:=aB (dW v.1 (x1,x2));have HO:Hid (∀w,Ζ η 137 #[φ #[J v.1.1,J v.1.2],φ #[J x1,J x2]] w fun e w'=>e=.returned (J o)∧σ w.heap.size w w'):=qh (by rw[←go];exact HO.out);rw[go];clear go;obtain⟨⟨i1,i2⟩,lb,at_⟩:=v;show Ζ η 146 #[φ #[J i1,J i2,μ lb,J at_],φ #[J x1,J x2]] w _;have HO:Hid (∀w,Ζ η 137 #[φ #[J i1,J i2],φ #[J x1,J x2]] w fun e w'=>e=.returned (J o)∧σ w.heap.size w w'):=HO;go_enter Tryz.func146,Tryz.ntmps146
 go_wp2_with (first
  |(go_at_call 137
    refine(HO.out _).mono ?_
    rintro e w2 ⟨rfl,hb⟩;have HB:=qh (ag (aI (az w (δ #[J i1,J i2,μ lb,J at_] 67)) (δ #[J x1,J x2] 30)) hb);clear hb))
 go_ret;exact⟨rfl,HB.out⟩
theorem QW (A:Option Κ) (n c:Nat) (G:List EC) (x1 x2:Int) (w:ο) (h:bg w w.heap.size 4 A n c (ah eC G)) (hn:n≤1000000) (cf:Nat→Int) (IC:∀t x,G[t]? =ζ x→dW x.1 (x1,x2)=cf t) (ku:∀a b,a≤b→b<n→cf b<0→cf a<0):
 Ζ η 145 #[γ A n c,φ #[J x1,J x2],.func (.func 146) #[] #[]] w fun e w'=>∃i:Nat,i≤n∧(∀t,t<i→cf t<0)∧(∀t,i≤t→t<n→0≤cf t)∧e=.returned (Ξ #[J (i:Int),Β (decide (i<n) && decide (cf i=0))])∧σ w.heap.size w w':=by
 have H:=qh h;have Hl:=qh (h.rlen bM (by decide));have HM:=qh ku;have he:M8 146:=nH Tryz.func146 (by kernel_rfl) rfl;clear h ku;go_enter Tryz.func145,Tryz.ntmps145;go_wp2;have lQ:=Whole.new_ w 30 [J x1,J x2];have oI:=az w (δ #[J x1,J x2] 30);obtain⟨W0,bO⟩:=aB (w.alloc (δ #[J x1,J x2] 30));replace lQ:Whole W0 w.heap.size 30 [J x1,J x2]:=bO▸lQ;rw[bO] at oI ⊢;obtain⟨b0,bp⟩:=aB w.heap.size;rw[bp] at lQ ⊢;have aQ:=qh lQ;have bw:=qh oI;clear bO bp lQ oI;go_loopw [9,10] (fun s9 Ni wr=>∃lo hi:Nat,s9=J lo∧Ni=J hi∧lo≤hi∧hi≤n∧Hid (Whole wr b0 30 [J x1,J x2])∧Hid (σ w.heap.size w wr)∧Hid ((∀t,t<lo→cf t<0)∧(∀t,hi≤t→t<n→0≤cf t))) (fun s9 Ni _=>(intOf Ni).toNat - (intOf s9).toNat)
 case atStart=>exact⟨0,n,rfl,rfl,Jas _,Δ _,aQ,bw,qh ⟨fun t ht=>absurd ht (Nat.not_lt_zero _),fun t h1 h2=>by omega⟩⟩
 case round=>
  clear aQ bw;obtain⟨lo,hi,rfl,rfl,hlh,jm,HX,HB,HI⟩:=hrel;obtain⟨wo,cS⟩:=aB wr;rw[cS] at HX HB ⊢;clear cS
  by_cases dz:lo<hi
  ·obtain⟨m,gm⟩:=aB ((lo+hi) / 2);have KZ:lo≤m:=by omega
   have O0:m<hi:=by omega
   have hmn:m<n:=by omega
   have e1:((lo:Int)+(hi:Int)) / 2=(m:Int):=by omega
   obtain⟨x,hx⟩:∃x,G[m]? =ζ x:=⟨_,θ (by have:=Hl.out;omega)⟩
   obtain⟨b,off,rfl,aY,a8⟩:=H.out.place bM (by decide) (by omega);have bC:=HB.out;have wz:=IC m x hx;have uB:=CZ x x1 x2;have hp:=a8 m x hx;obtain⟨ov,tJ⟩:=aB (dW x.1 (x1,x2));rw[tJ] at wz uB;obtain⟨⟨i1,i2⟩,lb,at_⟩:=x;have q0:=hp 0 _ rfl;have q1:=hp 1 _ rfl;have q2:=hp 2 _ rfl;have q3:=hp 3 _ rfl;simp only[Ν,Jac] at q0 q1 q2 q3;have l0:=(bC.cell (p:=⟨b,off+m*4,ε⟩) aY).trans q0;have l1:=(bC.cell (p:=⟨b,off+m*4+1,ε⟩) aY).trans q1;have l2:=(bC.cell (p:=⟨b,off+m*4+2,ε⟩) aY).trans q2;have l3:=(bC.cell (p:=⟨b,off+m*4+3,ε⟩) aY).trans q3;have HC:Hid (∀w',Ζ η 146 #[φ #[J i1,J i2,μ lb,J at_],φ #[J x1,J x2]] w' fun e bW=>e=.returned (J ov)∧σ w'.heap.size w' bW):=qh uB;have yF:Hid (ov=cf m):=qh wz;clear hx a8 hp aY bC q0 q1 q2 q3 wz tJ uB;go_upto_region 5 with fail
   have fL:=cz l0;have ld1:=cz l1;have ka:=cz l2;have pV:=cz l3;have s6:=cm (i:=0) HX.out rfl;have sX:=cm (i:=1) HX.out rfl;clear l0 l1 l2 l3
   by_cases py:ov<0
   ·have hq:decide (ov<0)=τ:=decide_eq_true py;have oF:Hid ((∀t,t<m+1→cf t<0)∧(∀t,hi≤t→t<n→0≤cf t)):=qh ⟨fun t ht=>HM.out t m (by omega) (by omega) (by rw[←yF.out];exact py),HI.out.2⟩;clear py HI yF;refine ay (aO) (by kernel_rfl) ?_;refine aa 0 ?_;refine aa 1 ?_;refine aa 2 ?_;refine aa 3 ?_;refine aa 4 ?_;refine aa 5 ?_;refine cV 6 (hy:=by apply bP;rfl;rotate_left;intro w' aC;exact HC.out w';intro w';go_simp) (h:=?_);refine aa 7 ?_;refine aF (by kernel_rfl) ?_ _;intro W3 du;have bB:=qh (ag (aN HB.out) du);have cF:=qh (HX.out.dr.bl du);clear du HB HX fL ld1 ka pV s6 sX HC;go_wp2;go_roundw
    case rel=>exact⟨m+1,hi,by go_num,rfl,by omega,jm,cF,bB,oF⟩
    case measure=>simp[intOf];omega
   ·have hq:decide (ov<0)=ρ:=decide_eq_false py;have oF:Hid ((∀t,t<lo→cf t<0)∧(∀t,m≤t→t<n→0≤cf t)):=qh ⟨HI.out.1,fun t ht Oz=>Int.not_lt.1 fun h=>by have:=HM.out m t ht Oz h;rw[←yF.out] at this;omega⟩;clear py HI yF;refine ay (aO) (by kernel_rfl) ?_;refine aa 0 ?_;refine aa 1 ?_;refine aa 2 ?_;refine aa 3 ?_;refine aa 4 ?_;refine aa 5 ?_;refine cV 6 (hy:=by apply bP;rfl;rotate_left;intro w' aC;exact HC.out w';intro w';go_simp) (h:=?_);refine aa 7 ?_;refine aF (by kernel_rfl) ?_ _;intro W3 du;have bB:=qh (ag (aN HB.out) du);have cF:=qh (HX.out.dr.bl du);clear du HB HX fL ld1 ka pV s6 sX HC;go_wp2;go_roundw
    case rel=>exact⟨lo,m,rfl,by first|rfl|go_num,by omega,by omega,cF,bB,oF⟩
    case measure=>simp[intOf];omega
  ·obtain rfl:hi=lo:=by omega
   by_cases ni:hi<n
   ·have e2:(hi:Int)<(n:Int):=by omega
    have e3:¬(hi:Int)<(hi:Int):=by omega
    obtain⟨x,hx⟩:∃x,G[hi]? =ζ x:=⟨_,θ (by have:=Hl.out;omega)⟩
    obtain⟨b,off,rfl,aY,a8⟩:=H.out.place bM (by decide) (by omega);have bC:=HB.out;have wz:=IC hi x hx;have uB:=CZ x x1 x2;have hp:=a8 hi x hx;obtain⟨ov,tJ⟩:=aB (dW x.1 (x1,x2));rw[tJ] at wz uB;obtain⟨⟨i1,i2⟩,lb,at_⟩:=x;have q0:=hp 0 _ rfl;have q1:=hp 1 _ rfl;have q2:=hp 2 _ rfl;have q3:=hp 3 _ rfl;simp only[Ν,Jac] at q0 q1 q2 q3;have l0:=(bC.cell (p:=⟨b,off+hi*4,ε⟩) aY).trans q0;have l1:=(bC.cell (p:=⟨b,off+hi*4+1,ε⟩) aY).trans q1;have l2:=(bC.cell (p:=⟨b,off+hi*4+2,ε⟩) aY).trans q2;have l3:=(bC.cell (p:=⟨b,off+hi*4+3,ε⟩) aY).trans q3;have HC:Hid (∀w',Ζ η 146 #[φ #[J i1,J i2,μ lb,J at_],φ #[J x1,J x2]] w' fun e bW=>e=.returned (J ov)∧σ w'.heap.size w' bW):=qh uB;have yF:Hid (ov=cf hi):=qh wz;clear hx a8 hp aY bC q0 q1 q2 q3 wz tJ uB;obtain⟨bq,yb⟩:=aB ((ov==0))
    have kg:(decide (hi<n) && decide (cf hi=0))=bq:=by
     rw[decide_eq_true ni,←yF.out,←yb,Bool.true_and,Bool.eq_iff_iff,decide_eq_true_iff,beq_iff_eq]
    have xG:=qh kg;clear kg;go_upto_region 8 with fail
    have fL:=cz l0;have ld1:=cz l1;have ka:=cz l2;have pV:=cz l3;have s6:=cm (i:=0) HX.out rfl;have sX:=cm (i:=1) HX.out rfl;clear l0 l1 l2 l3;refine ay (aO) (by kernel_rfl) ?_;refine aa 0 ?_;refine aa 1 ?_;refine aa 2 ?_;refine aa 3 ?_;refine aa 4 ?_;refine aa 5 ?_;refine aa 6 ?_;refine aa 7 ?_;refine aa 8 ?_;refine aa 9 ?_;refine aa 10 ?_;refine cV 11 (hy:=by apply bP;rfl;rotate_left;intro w' aC;exact HC.out w';intro w';go_simp) (h:=?_);refine aa 12 ?_;refine aa 13 ?_;refine aa 14 ?_;refine aa 15 ?_;refine aF (by kernel_rfl) ?_ _;intro W3 du;have bB:=qh (ag (aN HB.out) du);clear du HB HX fL ld1 ka pV s6 sX HC;go_wp2;refine JaN (v:=Ξ #[J (hi:Int),Β bq]) (by simp[results,Tryz.results145,go_sem]) rfl ?_;exact⟨hi,jm,HI.out.1,HI.out.2,by rw[xG.out],bB.out⟩
   ·have e2:¬(hi:Int)<(n:Int):=by omega
    have e3:¬(hi:Int)<(hi:Int):=by omega
    have kg:(decide (hi<n) && decide (cf hi=0))=ρ:=by rw[decide_eq_false ni];rfl
    have xG:=qh kg;clear kg;go_upto_region 8 with fail
    refine ay (aO) (by kernel_rfl) ?_;refine aa 0 ?_;refine aa 1 ?_;refine aa 2 ?_;refine aa 3 ?_;refine aa 4 ?_;refine cp 5 ?_;refine cp 6 ?_;refine cp 7 ?_;refine cp 8 ?_;refine cp 9 ?_;refine cp 10 ?_;refine cp 11 ?_;refine cp 12 ?_;refine aa 13 ?_;refine aa 14 ?_;refine aa 15 ?_;refine aF (by kernel_rfl) ?_ _;intro W3 du;have bB:=qh (ag (aN HB.out) du);clear du HB HX;go_wp2;refine JaN (v:=Ξ #[J (hi:Int),Β ρ]) (by simp[results,Tryz.results145,go_sem]) rfl ?_;exact⟨hi,jm,HI.out.1,HI.out.2,by rw[xG.out],bB.out⟩
theorem oL {W w':ο} {b:Nat} (h:Kept (fun x=>x=b) W w'):W.grownBy w' (ζ b):=⟨h.os,h.tape,h.output,h.size,fun i hi bj=>h.block i hi (fun e=>bj (by rw[e]))⟩
theorem rW {W w':ο} {r:Option Nat} (h:σ W.heap.size W w'):W.grownBy w' r:=⟨h.os,h.tape,h.output,h.size,fun i hi _=>h.block i hi⟩
theorem Fc:(η.info? 59).map (fun i=>(i.zero,i.size,i.bytes))=ζ (ζ (JbL #[J 0,J 0,γ ε 0 0,μ {data:=#[]},J 0]),5,64):=by kernel_rfl
theorem Qp (x:VC):ah vC [x]=vC x:=by simp[ah]
theorem AY {w W:ο} {B:Nat} {A:Option Κ} {n c vb:Nat} {G:List VC} (x:VC) (hO:Ow w B 59 5 (γ A n c) n (ah vC G) W) (hx:bg W W.heap.size 5 (ζ ⟨vb,0,ε⟩) 1 1 (ah vC [x])) (hn:n≤1000):
 Ζ η 138 #[γ A n c,J (n:Int),γ (ζ ⟨vb,0,ε⟩) 1 1] W fun e w'=>∃A' c',e=.returned (γ A' (n+1) c')∧Ow w B 59 5 (γ A' (n+1) c') (n+1) (ah vC (G++[x])) w'∧W.grownBy w' (Ο A n c).ownBlock:=by
 obtain⟨iG,sU,oS,jO,mC⟩:=aW Fc;have HO:=qh hO;have HL:=qh hx;have pU:n≤c:=(aK hO.own).le;have oz:=nB hO.own;unfold Jap at oz;have e1:((n:Int)==(n:Int))=τ:=by simp
 clear hO hx
 by_cases Cw:c=n
 ·go_enter Tryz.func138,Tryz.ntmps138
  go_wp2_with (first
   |(at_builtin
     refine cC rfl (.tmp 23) (.tmp 24) _ rfl _ 59 iG _ 5 64 Tryz.underlying22 sU oS jO mC rfl (by decide) _ _ _ rfl HO.out _ _ _ _ _ rfl HL.out (bU vC nQ [x]) (by unfold Jap;omega) (by omega) ?_;intro v5 W5 jv fP qV;obtain⟨A5,c5,rfl,-⟩:=jv.rds;have BE:=qh jv;have O6:=qh qV;clear jv fP qV))
  go_ret;exact⟨_,_,rfl,by rw[bY];exact BE.out,O6.out⟩
 ·go_enter Tryz.func138,Tryz.ntmps138
  go_wp2_with (first
   |(at_builtin
     refine cC rfl (.tmp 23) (.tmp 24) _ rfl _ 59 iG _ 5 64 Tryz.underlying22 sU oS jO mC rfl (by decide) _ _ _ rfl HO.out _ _ _ _ _ rfl HL.out (bU vC nQ [x]) (by unfold Jap;omega) (by omega) ?_;intro v5 W5 jv fP qV;obtain⟨A5,c5,rfl,-⟩:=jv.rds;have BE:=qh jv;have O6:=qh qV;clear jv fP qV))
  go_ret;exact⟨_,_,rfl,by rw[bY];exact BE.out,O6.out⟩
theorem JZ (rows junk new:List ψ) (i n:Nat) (hr:rows.length=n*5) (hi:i<n) (hj:5≤junk.length) (hn:new.length=5):
 cU (cU (rows++junk) ((i+1)*5) (rows.drop (i*5))) (i*5) new=(rows.take (i*5)++(new++rows.drop (i*5)))++junk.drop 5:=by
 obtain⟨P,hP⟩:=aB (rows.take (i*5));obtain⟨S,hS⟩:=aB (rows.drop (i*5));have hPS:rows=P++S:=by rw[←hP,←hS,Jbf]
 have R5:P.length=i*5:=by rw[←hP,JaA];omega
 have hSl:S.length=(n - i)*5:=by rw[←hS,Jaz];omega
 rw[hP,hS,hPS]
 have e1:cU (P++S++junk) ((i+1)*5) S=P++((S++junk).take 5++(S++junk.drop 5)):=by
  unfold cU;rw[Jay P S junk,Jbt,JaR,R5];rw[Ι (by omega),Jak (by omega),JaF,Jay];rw[show(i+1)*5 - i*5=5 by omega];congr 2;rw[JaR,Jak (by omega),JaF];rw[show(i+1)*5+S.length - i*5 - S.length=5 by omega]
 rw[e1];unfold cU;have DZ:((S++junk).take 5).length=5:=by rw[JaA,Ε];omega
 rw[Jbt,JaR,R5,hn,JaP,JbQ,Jbi,Ι (by omega),Jak (by omega),JaF];rw[show i*5+5 - i*5=5 by omega,JaR,DZ,Jak (by omega),JaF,JaP,List.drop_zero];simp[Jay]
theorem mH {G:List VC} (i:Nat):(ah vC G).take (i*5)=ah vC (G.take i)∧(ah vC G).drop (i*5)=ah vC (G.drop i):=⟨(iz vC aS G i).symm,(jt vC aS G i).symm⟩
theorem xX {w W:ο} {B:Nat} {A:Option Κ} {n c vb i:Nat} {G:List VC} (x:VC) (hO:Ow w B 59 5 (γ A n c) n (ah vC G) W) (hx:Whole W vb 59 (vC x)) (bj:ζ vb≠(Ο A n c).ownBlock) (hn:n≤1000) (hi:i<n) (CK:n+1≤c):
 Ζ η 138 #[γ A n c,J (i:Int),γ (ζ ⟨vb,0,ε⟩) 1 1] W fun e w'=>∃A' c',e=.returned (γ A' (n+1) c')∧Ow w B 59 5 (γ A' (n+1) c') (n+1) (ah vC (G.take i++x::G.drop i)) w'∧W.grownBy w' (Ο A n c).ownBlock:=by
 obtain⟨iG,sU,oS,jO,mC⟩:=aW Fc;obtain⟨b,junk,rfl,fw,hW,ln,pU,oz,j9⟩:=cN hO.own (by omega);have Bq:vb≠b:=fun e=>bj (by rw[e];rfl)
 have qq:(c - n)*5=junk.length:=by rw[Ε,j9] at ln;rw[Nat.sub_mul];omega
 have Sv:5≤junk.length:=by rw[←qq];omega
 unfold Jap at oz;have rB:(ah vC G++junk).length=c*5:=ln;have jJ:(n - i)*5=((ah vC G).drop (i*5)).length:=by rw[Jaz,j9,←Nat.sub_mul]
 have fU:(η.info? 59).map (·.size)=ζ 5:=by rw[sU];simp[jO]
 have G1:∀w,(Go.sizeOf 59).run η w=.ok 5 w:=fun w=>by simp[sizeOf,typeInfo,sU,jO]
 have TD:∀lb cb,(callFunc 156 #[γ (ζ ⟨vb,0,ε⟩) 1 1,γ (ζ ⟨b,(i+1)*5,ε⟩) lb cb]).run η W=.ok (.value (Β ρ)) W:=fun lb cb=>by
  rw[run_callFunc_extern Tryz.func156 (by kernel_rfl) (by kernel_rfl) (by kernel_rfl) (e:=Extern.SlicesOverlaps.overlaps #[22,22] #[4]) (by kernel_rfl),
   Lib.run_overlaps_apart W 22 4 59 Tryz.underlying22 5 G1 ⟨vb,0,ε⟩ ⟨b,(i+1)*5,ε⟩ 1 1 lb cb Bq 59 59 _ _ (iH hx) (iH hW) (by rw[ln];omega) (hx.free 0) (hx.free _)]
  rfl
 have zb:∀v∈(ah vC G).drop (i*5),v.oneCell'=τ:=fun v hv=>bU vC nQ G v (JbC hv)
 have DJ:∀ty dc sc,(Jbr #[22,22] ty #[γ (ζ ⟨b,(i+1)*5,ε⟩) (n - i) dc,γ (ζ ⟨b,i*5,ε⟩) (n+1 - i) sc]).run η W.drew=.ok (goInt (n - i:Nat)) (W.drew.setCells b ((i+1)*5) ((ah vC G).drop (i*5))):=fun ty dc sc=>
  da W.drew _ _ ty 59 5 b ((i+1)*5) (n - i) dc ⟨b,i*5,ε⟩ (n+1 - i) sc (n - i) _ Tryz.underlying22 fU (by simp only[JbR];split<;>omega) jJ
   (fun j v hj=>by
     rw[Ν];rw[JaS] at hj;exact hW.dr.cell (i:=i*5+j) (by rw[Jab (by have:=(ν.1 hj).1;omega)];exact hj))
   (fun j hj=>dA hW.dr (by rw[←jJ] at hj;rw[rB];omega)) (fun j hj=>hW.dr.free _) zb
 have oR:=hW.dr.cells_ ((ah vC G).drop (i*5)) ((i+1)*5) W.drew _ (by rw[←jJ,rB];omega);obtain⟨W1,aV⟩:=aB (W.drew.setCells b ((i+1)*5) ((ah vC G).drop (i*5)));have jq:Whole W1 vb 59 (vC x):=aV▸hx.dr.cells_far Bq _ _;have cP:σ w.heap.size w W1:=aV▸below_setCells hO.below.drew (Λ hO.lo fw) _ _;have pO:W1.heap.size=W.heap.size:=by rw[←aV,bJ];rfl
 rw[aV] at DJ oR;have a8:(cU (ah vC G++junk) ((i+1)*5) ((ah vC G).drop (i*5))).length=c*5:=by rw[eT _ _ _ (by rw[←jJ,rB];omega),rB]
 have OK:∀ty dc,(Jbr #[22,22] ty #[γ (ζ ⟨b,i*5,ε⟩) (n+1 - i) dc,γ (ζ ⟨vb,0,ε⟩) 1 1]).run η W1=.ok (goInt (1:Nat)) (W1.setCells b (i*5) (vC x)):=fun ty dc=>
  da W1 _ _ ty 59 5 b (i*5) (n+1 - i) dc ⟨vb,0,ε⟩ 1 1 1 _ Tryz.underlying22 fU (by simp only[JbR];split<;>omega) rfl
   (fun j v hj=>by
     rw[Ν,JaI];exact jq.cell hj)
   (fun j hj=>dA oR (by rw[a8];rw[aS] at hj;omega)) (fun j hj=>oR.free _) (nQ x)
 have AW:=oR.cells_ (vC x) (i*5) W1 _ (by rw[a8,aS];omega);rw[JZ (ah vC G) junk (vC x) i n j9 hi Sv (aS x),(mH i).1,(mH i).2] at AW;have iL:ah vC (G.take i)++(vC x++ah vC (G.drop i))=ah vC (G.take i++x::G.drop i):=by rw[bY];rfl
 rw[iL] at AW;have Tw:G.length=n:=(aK hO.own).rlen aS (by decide)
 have qx:(ah vC (G.take i++x::G.drop i)).length=(n+1)*5:=by
  rw[←iL,Ε,Ε,←(mH i).1,←(mH i).2,JaA,Jaz,j9,aS];omega
 have HF:Hid (Ow w B 59 5 (γ (ζ ⟨b,0,ε⟩) (n+1) c) (n+1) (ah vC (G.take i++x::G.drop i)) (W1.setCells b (i*5) (vC x))):=qh
  ⟨kk (junk:=junk.drop 5) AW fw (by rw[Ε,qx,Jaz,←qq];omega) CK (by unfold Jap;omega) qx,
   below_setCells cP (Λ hO.lo fw) _ _,hO.lo,by rw[bJ,pO];exact hO.hi⟩
 have Dg:Hid (W.grownBy (W1.setCells b (i*5) (vC x)) (ζ b)):=qh (by
  rw[←aV];exact oL (((Kept.refl (fun x=>x=b) W).drew).trans ((di (S:=fun x=>x=b) rfl _ _).trans (di (S:=fun x=>x=b) rfl _ _))))
 have kK:¬((i:Int)=(n:Int)):=by omega
 have ia:Jaw.wrap ((i:Int)+1)=(i:Int)+1:=by rw[JaT];omega
 have fT:Jaw.wrap ((n:Int)+1)=(n:Int)+1:=by rw[JaT];omega
 have cP:(0:Int)≤(i:Int)+1:=by omega
 have jm:i≤n:=by omega
 have Oz:((i:Int)+1).toNat=i+1:=by omega
 have aa4:((n:Int)+1).toNat=n+1:=by omega
 have aP:¬(c=i+1):=by omega
 have bA:(i:Int)≤(n:Int)+1:=by omega
 have ns:¬(c=i):=by omega
 have fP:¬(c:Int)<(n:Int)+1:=by omega
 have oE:(n:Int)+1≤(c:Int):=by omega
 have mixed:η.follows JbG=τ:=by kernel_rfl
 clear hO hx bj hW ln j9 Bq qq Sv rB jJ fU G1 zb oR aV jq a8 AW iL Tw qx pO;go_enter Tryz.func138,Tryz.ntmps138;go_wp2_with (simp only[TD])
 go_region_law_o (refine step_copy_runI rfl _ _ 22 22 rfl _ _ (by simp[Act.eval,ξ]) (by simp[Act.eval,ξ]) (DJ _ _ _) ?_);go_wp2_with (at_builtin;refine wpList_copy_runI _ rfl _ _ 22 22 rfl _ _ rfl rfl (OK _ _) ?_)
 go_ret;exact⟨_,_,rfl,HF.out,Dg.out⟩
theorem Fh (P Z new S:List ψ) (i:Nat) (hP:P.length=i*5) (hn:new.length=5) (hZ:5+S.length≤Z.length):
 cU (cU (P++Z) (i*5) new) ((i+1)*5) S=(P++(new++S))++Z.drop (5+S.length):=by
 have e1:cU (P++Z) (i*5) new=(P++new)++Z.drop 5:=by
  unfold cU;rw[Jbt,JaR,hP,hn,JaP,JbQ,Jbi,Ι (by omega),Jak (by omega),JaF];rw[show i*5+5 - i*5=5 by omega,Jay]
 have hl:(P++new).length=(i+1)*5:=by rw[Ε,hP,hn];omega
 rw[e1];unfold cU;rw[Jbt,JaR,hl,JaP,JbQ,Jbi,Ι (by omega),Jak (by omega),JaF];rw[show(i+1)*5+S.length - (i+1)*5=S.length by omega,List.drop_drop];simp[Jay]
theorem BX (k:Nat):(JaO (JbL #[J 0,J 0,γ ε 0 0,μ {data:=#[]},J 0]).cells k).size=k*5:=by
 simp[JaO,Value.cells]
theorem yg {w W:ο} {B:Nat} {A:Option Κ} {n vb i:Nat} {G:List VC} (x:VC) (hO:Ow w B 59 5 (γ A n n) n (ah vC G) W) (hx:Whole W vb 59 (vC x)) (hn:n≤1000) (hi:i<n):
 Ζ η 138 #[γ A n n,J (i:Int),γ (ζ ⟨vb,0,ε⟩) 1 1] W fun e w'=>∃A' c',e=.returned (γ A' (n+1) c')∧Ow w B 59 5 (γ A' (n+1) c') (n+1) (ah vC (G.take i++x::G.drop i)) w'∧W.grownBy w' (Ο A n n).ownBlock:=by
 obtain⟨iG,sU,oS,jO,mC⟩:=aW Fc;obtain⟨b,junk,rfl,fw,hW,ln,pU,oz,j9⟩:=cN hO.own (by omega);have jJ:(n - i)*5=((ah vC G).drop (i*5)).length:=by rw[Jaz,j9,←Nat.sub_mul]
 have a8:((ah vC G).take (i*5)).length=i*5:=by rw[JaA,j9];omega
 have fU:(η.info? 59).map (·.size)=ζ 5:=by rw[sU];simp[jO]
 have OW:i+(n+1 - i)=n+1:=by omega
 have vj:(n:Int)+1 - (i:Int)=((n+1 - i:Nat):Int):=by omega
 have zb:∀v∈(ah vC G).drop (i*5),v.oneCell'=τ:=fun v hv=>bU vC nQ G v (JbC hv)
 have hold:(Builtin.firstCells iG.size i (γ (ζ ⟨b,0,ε⟩) i n)).run η W.drew=.ok ((ah vC G).take (i*5)).toArray W.drew:=by
  rw[jO]
  exact run_firstCells_some W.drew 5 i ⟨b,0,ε⟩ i n _ a8 (fun j v hj=>by
   rw[Ν,JaI];rw[List.getElem?_take] at hj;split at hj
   ·exact hW.dr.cell (i:=j) (by rw[Jab (ν.1 hj).1];exact hj)
   ·cases hj)
 obtain⟨g,hg⟩:=aB W.heap.size;obtain⟨GC,IM⟩:=aB (grownCap W (n+1) n 59);have Y9:n+1≤GC:=by rw[←IM];exact grownCap_ge W _ _ _
 have Dj:GC≤Jap:=by rw[←IM];exact grownCap_le_maxLen W (n+1) n 59 (by unfold Jap;omega)
 obtain⟨qS,xe⟩:=aB (((ah vC G).take (i*5)).toArray++JaO (JbL #[J 0,J 0,γ ε 0 0,μ {data:=#[]},J 0]).cells (n+1 - i)++JaO (JbL #[J 0,J 0,γ ε 0 0,μ {data:=#[]},J 0]).cells (GC - (n+1)))
 have Tk:∀ty,(JaY #[22,3] ty #[γ (ζ ⟨b,0,ε⟩) i n,J ((n:Int)+1 - (i:Int))]).run η W=.ok (γ (ζ ⟨g,0,ε⟩) (n+1) GC) (W.drew.alloc (δ qS 59)):=fun ty=>by
  have h:=Lib.run_append_grow_zeros W 22 3 ty 59 iG _ .i64 .i64 Tryz.underlying22 Tryz.underlying3 sU oS (ζ ⟨b,0,ε⟩) i n _ hold (n+1 - i) (by omega) (by omega) (by omega) (by omega) (by rw[mC];omega) (by rw[mC,OW];exact growslice_fits (by omega) (by omega));rw[OW,hg,IM,xe] at h;rw[vj];exact h
 obtain⟨Z,hZ⟩:=aB ((JaO (JbL #[J 0,J 0,γ ε 0 0,μ {data:=#[]},J 0]).cells (n+1 - i)++JaO (JbL #[J 0,J 0,γ ε 0 0,μ {data:=#[]},J 0]).cells (GC - (n+1))).toList)
 have G3:Z.length=(GC - i)*5:=by
  rw[←hZ,Array.length_toList,Array.size_append,BX,BX];omega
 have N0:qS=((ah vC G).take (i*5)++Z).toArray:=by
  rw[←xe,←hZ];simp
 have SZ:b≠g:=by have:=hW.lt;omega
 have YO:vb≠g:=by have:=hx.lt;omega
 obtain⟨P,hP⟩:=aB ((ah vC G).take (i*5));obtain⟨S,hS⟩:=aB ((ah vC G).drop (i*5));rw[hP] at a8 N0;rw[hS] at jJ zb;have BP:(P++Z).length=GC*5:=by rw[Ε,a8,G3];omega
 have AZ:Whole (W.drew.alloc (δ qS 59)) g 59 (P++Z):=by
  rw[N0];exact Whole.new2 hg.symm
 have Lm:Whole (W.drew.alloc (δ qS 59)) vb 59 (vC x):=hx.dr.alloc _;have Nc:Whole (W.drew.alloc (δ qS 59)) b 59 (ah vC G++junk):=hW.dr.alloc _;have YN:=hO.below.size;have iQ:σ w.heap.size w (W.drew.alloc (δ qS 59)):=aI (aN hO.below) _;have ly:(W.drew.alloc (δ qS 59)).heap.size=W.heap.size+1:=by simp
 have Wv:σ W.heap.size W (W.drew.alloc (δ qS 59)):=aI (aN (Θ _ _)) _;obtain⟨V1,fD⟩:=aB (W.drew.alloc (δ qS 59));rw[fD] at AZ Lm Nc iQ ly Tk Wv
 have xk:∀V,V=V1→∀ty dc,(Jbr #[22,22] ty #[γ (ζ ⟨g,i*5,ε⟩) (n+1 - i) dc,γ (ζ ⟨vb,0,ε⟩) 1 1]).run η V=.ok (goInt (1:Nat)) (V1.setCells g (i*5) (vC x)):=fun V hV ty dc=>by
  subst hV
  exact da V _ _ ty 59 5 g (i*5) (n+1 - i) dc ⟨vb,0,ε⟩ 1 1 1 _ Tryz.underlying22 fU (by simp only[JbR];split<;>omega) rfl
   (fun j v hj=>by
     rw[Ν,JaI];exact Lm.cell hj)
   (fun j hj=>dA AZ (by rw[BP];rw[aS] at hj;omega)) (fun j hj=>AZ.free _) (nQ x)
 have BR:=AZ.cells_ (vC x) (i*5) V1 _ (by rw[BP,aS];omega);have OG:Whole (V1.setCells g (i*5) (vC x)) b 59 (ah vC G++junk):=Nc.cells_far SZ _ _;have jd:σ w.heap.size w (V1.setCells g (i*5) (vC x)):=below_setCells iQ (by omega) _ _;have T3:σ W.heap.size W (V1.setCells g (i*5) (vC x)):=below_setCells Wv (by omega) _ _;have kK:(V1.setCells g (i*5) (vC x)).heap.size=W.heap.size+1:=by rw[bJ,ly]
 obtain⟨V2,yV⟩:=aB (V1.setCells g (i*5) (vC x));rw[yV] at BR OG jd kK xk T3;have ob:(cU (P++Z) (i*5) (vC x)).length=GC*5:=by rw[eT _ _ _ (by rw[BP,aS];omega),BP]
 have Mz:∀ty dc sc,(Jbr #[22,22] ty #[γ (ζ ⟨g,(i+1)*5,ε⟩) (n - i) dc,γ (ζ ⟨b,i*5,ε⟩) (n - i) sc]).run η V2.drew=.ok (goInt (n - i:Nat)) (V2.drew.setCells g ((i+1)*5) S):=fun ty dc sc=>
  da V2.drew _ _ ty 59 5 g ((i+1)*5) (n - i) dc ⟨b,i*5,ε⟩ (n - i) sc (n - i) _ Tryz.underlying22 fU (by simp only[JbR];split<;>omega) jJ
   (fun j v hj=>by
     rw[Ν];rw[←hS,JaS] at hj;exact OG.dr.cell (i:=i*5+j) (by rw[Jab (ν.1 hj).1];exact hj))
   (fun j hj=>dA BR.dr (by rw[←jJ] at hj;rw[ob];omega)) (fun j hj=>BR.dr.free _) zb
 have La:=BR.dr.cells_ S ((i+1)*5) V2.drew _ (by rw[←jJ,ob];omega);rw[Fh P Z (vC x) S i a8 (aS x) (by rw[←jJ,G3];omega)] at La;have iL:P++(vC x++S)=ah vC (G.take i++x::G.drop i):=by rw[←hP,←hS,(mH i).1,(mH i).2,bY];rfl
 have qx:(P++(vC x++S)).length=(n+1)*5:=by rw[Ε,Ε,a8,aS,←jJ];omega
 have DW:(Z.drop (5+S.length)).length=(GC - (n+1))*5:=by rw[Jaz,G3,←jJ];omega
 have HF:Hid (Ow w B 59 5 (γ (ζ ⟨g,0,ε⟩) (n+1) GC) (n+1) (ah vC (G.take i++x::G.drop i)) (V2.drew.setCells g ((i+1)*5) S)):=qh (by
  rw[←iL];exact⟨kk (junk:=Z.drop (5+S.length)) La (by have:=hO.hi;omega) (by rw[Ε,qx,DW];omega) Y9 Dj qx,below_setCells (aN jd) (by omega) _ _,hO.lo,by rw[bJ];show B≤V2.heap.size;have:=hO.hi;omega⟩)
 have Dg:Hid (W.grownBy (V2.drew.setCells g ((i+1)*5) S) (ζ b)):=qh (rW (below_setCells (aN T3) (by omega) _ _));have hz3:¬((i:Int)=(n:Int)):=by omega
 have ia:Jaw.wrap ((i:Int)+1)=(i:Int)+1:=by rw[JaT];omega
 have fT:Jaw.wrap ((n:Int)+1)=(n:Int)+1:=by rw[JaT];omega
 have du:Jaw.wrap ((n:Int)+1 - (i:Int))=(n:Int)+1 - (i:Int):=by rw[JaT];omega
 have cP:(0:Int)≤(i:Int)+1:=by omega
 have jm:i≤n:=by omega
 have Oz:((i:Int)+1).toNat=i+1:=by omega
 have aP:¬(GC=i+1):=by omega
 have bA:(i:Int)≤(n:Int):=by omega
 have ns:¬(n=i):=by omega
 have fP:¬(GC=i):=by omega
 have oE:(n:Int)<(n:Int)+1:=by omega
 unfold Jap at Dj;have mixed:η.follows JbG=τ:=by kernel_rfl
 subst fD;have My:∀ty dc,(Jbr #[22,22] ty #[γ (ζ ⟨g,i*5,ε⟩) (n+1 - i) dc,γ (ζ ⟨vb,0,ε⟩) 1 1]).run η (W.alloc (δ qS 59)).drew=.ok (goInt (1:Nat)) V2:=fun ty dc=>xk _ rfl ty dc
 clear xk yV;clear hO hx hW ln j9 YO SZ jJ fU zb hold a8 OW vj xe G3 N0 hZ BP AZ Lm Nc iQ ly Wv T3 BR OG jd kK ob La iL qx DW hP hS IM YN;go_enter Tryz.func138,Tryz.ntmps138
 go_wp2_with (first
  |(at_builtin;refine Lib.wpList_append_run _ rfl _ _ _ _ rfl _ _ rfl rfl _ _ (Tk _) ?_)
  |(at_builtin;refine wpList_copy_runI _ rfl _ _ 22 22 rfl _ _ rfl rfl (My _ _) ?_))
 go_region_law_o (refine step_copy_runI rfl _ _ 22 22 rfl _ _ (by simp[Act.eval,ξ]) (by simp[Act.eval,ξ]) (Mz _ _ _) ?_);go_wp2;go_ret;exact⟨_,_,rfl,HF.out,Dg.out⟩
theorem zN {w W:ο} {B:Nat} {A:Option Κ} {n c vb i:Nat} {G:List VC} (x:VC) (hO:Ow w B 59 5 (γ A n c) n (ah vC G) W) (hx:Whole W vb 59 (vC x)) (bj:ζ vb≠(Ο A n c).ownBlock) (hn:n≤1000) (hi:i≤n):
 Ζ η 138 #[γ A n c,J (i:Int),γ (ζ ⟨vb,0,ε⟩) 1 1] W fun e w'=>∃A' c',e=.returned (γ A' (n+1) c')∧Ow w B 59 5 (γ A' (n+1) c') (n+1) (ah vC (G.take i++x::G.drop i)) w'∧W.grownBy w' (Ο A n c).ownBlock:=by
 have pU:n≤c:=(aK hO.own).le;have Tw:G.length=n:=(aK hO.own).rlen aS (by decide);rcases JaM i n with h|h
 ·rcases JaM n c with h2|h2
  ·exact xX x hO hx bj hn h h2
  ·obtain rfl:n=c:=by omega
   exact yg x hO hx hn h
 ·obtain rfl:n=i:=by omega
  rw[Ι (by omega),Jak (by omega)];exact AY x hO (by rw[Qp];exact bg.of_whole hx rfl) hn
theorem Ga:(η.info? 67).map (fun i=>(i.zero,i.size,i.bytes))=ζ (ζ (JbL #[J 0,J 0,μ {data:=#[]},J 0]),4,40):=by kernel_rfl
theorem P6 (x:EC):ah eC [x]=eC x:=by simp[ah]
theorem AH {w W:ο} {B:Nat} {A:Option Κ} {n c vb:Nat} {G:List EC} (x:EC) (hO:Ow w B 67 4 (γ A n c) n (ah eC G) W) (hx:bg W W.heap.size 4 (ζ ⟨vb,0,ε⟩) 1 1 (ah eC [x])) (hn:n≤1000):
 Ζ η 147 #[γ A n c,J (n:Int),γ (ζ ⟨vb,0,ε⟩) 1 1] W fun e w'=>∃A' c',e=.returned (γ A' (n+1) c')∧Ow w B 67 4 (γ A' (n+1) c') (n+1) (ah eC (G++[x])) w'∧W.grownBy w' (Ο A n c).ownBlock:=by
 obtain⟨iG,sU,oS,jO,mC⟩:=aW Ga;have HO:=qh hO;have HL:=qh hx;have pU:n≤c:=(aK hO.own).le;have oz:=nB hO.own;unfold Jap at oz;have e1:((n:Int)==(n:Int))=τ:=by simp
 clear hO hx
 by_cases Cw:c=n
 ·go_enter Tryz.func147,Tryz.ntmps147
  go_wp2_with (first
   |(at_builtin
     refine cC rfl (.tmp 23) (.tmp 24) _ rfl _ 67 iG _ 4 40 Tryz.underlying23 sU oS jO mC rfl (by decide) _ _ _ rfl HO.out _ _ _ _ _ rfl HL.out (bU eC nr [x]) (by unfold Jap;omega) (by omega) ?_;intro v5 W5 jv fP qV;obtain⟨A5,c5,rfl,-⟩:=jv.rds;have BE:=qh jv;have O6:=qh qV;clear jv fP qV))
  go_ret;exact⟨_,_,rfl,by rw[bY];exact BE.out,O6.out⟩
 ·go_enter Tryz.func147,Tryz.ntmps147
  go_wp2_with (first
   |(at_builtin
     refine cC rfl (.tmp 23) (.tmp 24) _ rfl _ 67 iG _ 4 40 Tryz.underlying23 sU oS jO mC rfl (by decide) _ _ _ rfl HO.out _ _ _ _ _ rfl HL.out (bU eC nr [x]) (by unfold Jap;omega) (by omega) ?_;intro v5 W5 jv fP qV;obtain⟨A5,c5,rfl,-⟩:=jv.rds;have BE:=qh jv;have O6:=qh qV;clear jv fP qV))
  go_ret;exact⟨_,_,rfl,by rw[bY];exact BE.out,O6.out⟩
theorem Kt (rows junk new:List ψ) (i n:Nat) (hr:rows.length=n*4) (hi:i<n) (hj:4≤junk.length) (hn:new.length=4):
 cU (cU (rows++junk) ((i+1)*4) (rows.drop (i*4))) (i*4) new=(rows.take (i*4)++(new++rows.drop (i*4)))++junk.drop 4:=by
 obtain⟨P,hP⟩:=aB (rows.take (i*4));obtain⟨S,hS⟩:=aB (rows.drop (i*4));have hPS:rows=P++S:=by rw[←hP,←hS,Jbf]
 have R5:P.length=i*4:=by rw[←hP,JaA];omega
 have hSl:S.length=(n - i)*4:=by rw[←hS,Jaz];omega
 rw[hP,hS,hPS]
 have e1:cU (P++S++junk) ((i+1)*4) S=P++((S++junk).take 4++(S++junk.drop 4)):=by
  unfold cU;rw[Jay P S junk,Jbt,JaR,R5];rw[Ι (by omega),Jak (by omega),JaF,Jay];rw[show(i+1)*4 - i*4=4 by omega];congr 2;rw[JaR,Jak (by omega),JaF];rw[show(i+1)*4+S.length - i*4 - S.length=4 by omega]
 rw[e1];unfold cU;have DZ:((S++junk).take 4).length=4:=by rw[JaA,Ε];omega
 rw[Jbt,JaR,R5,hn,JaP,JbQ,Jbi,Ι (by omega),Jak (by omega),JaF];rw[show i*4+4 - i*4=4 by omega,JaR,DZ,Jak (by omega),JaF,JaP,List.drop_zero];simp[Jay]
theorem mJ {G:List EC} (i:Nat):(ah eC G).take (i*4)=ah eC (G.take i)∧(ah eC G).drop (i*4)=ah eC (G.drop i):=⟨(iz eC bM G i).symm,(jt eC bM G i).symm⟩
theorem x9 {w W:ο} {B:Nat} {A:Option Κ} {n c vb i:Nat} {G:List EC} (x:EC) (hO:Ow w B 67 4 (γ A n c) n (ah eC G) W) (hx:Whole W vb 67 (eC x)) (bj:ζ vb≠(Ο A n c).ownBlock) (hn:n≤1000) (hi:i<n) (CK:n+1≤c):
 Ζ η 147 #[γ A n c,J (i:Int),γ (ζ ⟨vb,0,ε⟩) 1 1] W fun e w'=>∃A' c',e=.returned (γ A' (n+1) c')∧Ow w B 67 4 (γ A' (n+1) c') (n+1) (ah eC (G.take i++x::G.drop i)) w'∧W.grownBy w' (Ο A n c).ownBlock:=by
 obtain⟨iG,sU,oS,jO,mC⟩:=aW Ga;obtain⟨b,junk,rfl,fw,hW,ln,pU,oz,j9⟩:=cN hO.own (by omega);have Bq:vb≠b:=fun e=>bj (by rw[e];rfl)
 have qq:(c - n)*4=junk.length:=by rw[Ε,j9] at ln;rw[Nat.sub_mul];omega
 have Sv:4≤junk.length:=by rw[←qq];omega
 unfold Jap at oz;have rB:(ah eC G++junk).length=c*4:=ln;have jJ:(n - i)*4=((ah eC G).drop (i*4)).length:=by rw[Jaz,j9,←Nat.sub_mul]
 have fU:(η.info? 67).map (·.size)=ζ 4:=by rw[sU];simp[jO]
 have G1:∀w,(Go.sizeOf 67).run η w=.ok 4 w:=fun w=>by simp[sizeOf,typeInfo,sU,jO]
 have TD:∀lb cb,(callFunc 162 #[γ (ζ ⟨vb,0,ε⟩) 1 1,γ (ζ ⟨b,(i+1)*4,ε⟩) lb cb]).run η W=.ok (.value (Β ρ)) W:=fun lb cb=>by
  rw[run_callFunc_extern Tryz.func162 (by kernel_rfl) (by kernel_rfl) (by kernel_rfl) (e:=Extern.SlicesOverlaps.overlaps #[23,23] #[4]) (by kernel_rfl),
   Lib.run_overlaps_apart W 23 4 67 Tryz.underlying23 4 G1 ⟨vb,0,ε⟩ ⟨b,(i+1)*4,ε⟩ 1 1 lb cb Bq 67 67 _ _ (iH hx) (iH hW) (by rw[ln];omega) (hx.free 0) (hx.free _)]
  rfl
 have zb:∀v∈(ah eC G).drop (i*4),v.oneCell'=τ:=fun v hv=>bU eC nr G v (JbC hv)
 have DJ:∀ty dc sc,(Jbr #[23,23] ty #[γ (ζ ⟨b,(i+1)*4,ε⟩) (n - i) dc,γ (ζ ⟨b,i*4,ε⟩) (n+1 - i) sc]).run η W.drew=.ok (goInt (n - i:Nat)) (W.drew.setCells b ((i+1)*4) ((ah eC G).drop (i*4))):=fun ty dc sc=>
  da W.drew _ _ ty 67 4 b ((i+1)*4) (n - i) dc ⟨b,i*4,ε⟩ (n+1 - i) sc (n - i) _ Tryz.underlying23 fU (by simp only[JbR];split<;>omega) jJ
   (fun j v hj=>by
     rw[Ν];rw[JaS] at hj;exact hW.dr.cell (i:=i*4+j) (by rw[Jab (by have:=(ν.1 hj).1;omega)];exact hj))
   (fun j hj=>dA hW.dr (by rw[←jJ] at hj;rw[rB];omega)) (fun j hj=>hW.dr.free _) zb
 have oR:=hW.dr.cells_ ((ah eC G).drop (i*4)) ((i+1)*4) W.drew _ (by rw[←jJ,rB];omega);obtain⟨W1,aV⟩:=aB (W.drew.setCells b ((i+1)*4) ((ah eC G).drop (i*4)));have jq:Whole W1 vb 67 (eC x):=aV▸hx.dr.cells_far Bq _ _;have cP:σ w.heap.size w W1:=aV▸below_setCells hO.below.drew (Λ hO.lo fw) _ _;have pO:W1.heap.size=W.heap.size:=by rw[←aV,bJ];rfl
 rw[aV] at DJ oR;have a8:(cU (ah eC G++junk) ((i+1)*4) ((ah eC G).drop (i*4))).length=c*4:=by rw[eT _ _ _ (by rw[←jJ,rB];omega),rB]
 have OK:∀ty dc,(Jbr #[23,23] ty #[γ (ζ ⟨b,i*4,ε⟩) (n+1 - i) dc,γ (ζ ⟨vb,0,ε⟩) 1 1]).run η W1=.ok (goInt (1:Nat)) (W1.setCells b (i*4) (eC x)):=fun ty dc=>
  da W1 _ _ ty 67 4 b (i*4) (n+1 - i) dc ⟨vb,0,ε⟩ 1 1 1 _ Tryz.underlying23 fU (by simp only[JbR];split<;>omega) rfl
   (fun j v hj=>by
     rw[Ν,JaI];exact jq.cell hj)
   (fun j hj=>dA oR (by rw[a8];rw[bM] at hj;omega)) (fun j hj=>oR.free _) (nr x)
 have AW:=oR.cells_ (eC x) (i*4) W1 _ (by rw[a8,bM];omega);rw[Kt (ah eC G) junk (eC x) i n j9 hi Sv (bM x),(mJ i).1,(mJ i).2] at AW;have iL:ah eC (G.take i)++(eC x++ah eC (G.drop i))=ah eC (G.take i++x::G.drop i):=by rw[bY];rfl
 rw[iL] at AW;have Tw:G.length=n:=(aK hO.own).rlen bM (by decide)
 have qx:(ah eC (G.take i++x::G.drop i)).length=(n+1)*4:=by
  rw[←iL,Ε,Ε,←(mJ i).1,←(mJ i).2,JaA,Jaz,j9,bM];omega
 have HF:Hid (Ow w B 67 4 (γ (ζ ⟨b,0,ε⟩) (n+1) c) (n+1) (ah eC (G.take i++x::G.drop i)) (W1.setCells b (i*4) (eC x))):=qh
  ⟨kk (junk:=junk.drop 4) AW fw (by rw[Ε,qx,Jaz,←qq];omega) CK (by unfold Jap;omega) qx,
   below_setCells cP (Λ hO.lo fw) _ _,hO.lo,by rw[bJ,pO];exact hO.hi⟩
 have Dg:Hid (W.grownBy (W1.setCells b (i*4) (eC x)) (ζ b)):=qh (by
  rw[←aV];exact oL (((Kept.refl (fun x=>x=b) W).drew).trans ((di (S:=fun x=>x=b) rfl _ _).trans (di (S:=fun x=>x=b) rfl _ _))))
 have kK:¬((i:Int)=(n:Int)):=by omega
 have ia:Jaw.wrap ((i:Int)+1)=(i:Int)+1:=by rw[JaT];omega
 have fT:Jaw.wrap ((n:Int)+1)=(n:Int)+1:=by rw[JaT];omega
 have cP:(0:Int)≤(i:Int)+1:=by omega
 have jm:i≤n:=by omega
 have Oz:((i:Int)+1).toNat=i+1:=by omega
 have aa4:((n:Int)+1).toNat=n+1:=by omega
 have aP:¬(c=i+1):=by omega
 have bA:(i:Int)≤(n:Int)+1:=by omega
 have ns:¬(c=i):=by omega
 have fP:¬(c:Int)<(n:Int)+1:=by omega
 have oE:(n:Int)+1≤(c:Int):=by omega
 have mixed:η.follows JbG=τ:=by kernel_rfl
 clear hO hx bj hW ln j9 Bq qq Sv rB jJ fU G1 zb oR aV jq a8 AW iL Tw qx pO;go_enter Tryz.func147,Tryz.ntmps147;go_wp2_with (simp only[TD])
 go_region_law_o (refine step_copy_runI rfl _ _ 23 23 rfl _ _ (by simp[Act.eval,ξ]) (by simp[Act.eval,ξ]) (DJ _ _ _) ?_);go_wp2_with (at_builtin;refine wpList_copy_runI _ rfl _ _ 23 23 rfl _ _ rfl rfl (OK _ _) ?_)
 go_ret;exact⟨_,_,rfl,HF.out,Dg.out⟩
theorem FK (P Z new S:List ψ) (i:Nat) (hP:P.length=i*4) (hn:new.length=4) (hZ:4+S.length≤Z.length):
 cU (cU (P++Z) (i*4) new) ((i+1)*4) S=(P++(new++S))++Z.drop (4+S.length):=by
 have e1:cU (P++Z) (i*4) new=(P++new)++Z.drop 4:=by
  unfold cU;rw[Jbt,JaR,hP,hn,JaP,JbQ,Jbi,Ι (by omega),Jak (by omega),JaF];rw[show i*4+4 - i*4=4 by omega,Jay]
 have hl:(P++new).length=(i+1)*4:=by rw[Ε,hP,hn];omega
 rw[e1];unfold cU;rw[Jbt,JaR,hl,JaP,JbQ,Jbi,Ι (by omega),Jak (by omega),JaF];rw[show(i+1)*4+S.length - (i+1)*4=S.length by omega,List.drop_drop];simp[Jay]
theorem Cq (k:Nat):(JaO (JbL #[J 0,J 0,μ {data:=#[]},J 0]).cells k).size=k*4:=by
 simp[JaO,Value.cells]
theorem yo {w W:ο} {B:Nat} {A:Option Κ} {n vb i:Nat} {G:List EC} (x:EC) (hO:Ow w B 67 4 (γ A n n) n (ah eC G) W) (hx:Whole W vb 67 (eC x)) (hn:n≤1000) (hi:i<n):
 Ζ η 147 #[γ A n n,J (i:Int),γ (ζ ⟨vb,0,ε⟩) 1 1] W fun e w'=>∃A' c',e=.returned (γ A' (n+1) c')∧Ow w B 67 4 (γ A' (n+1) c') (n+1) (ah eC (G.take i++x::G.drop i)) w'∧W.grownBy w' (Ο A n n).ownBlock:=by
 obtain⟨iG,sU,oS,jO,mC⟩:=aW Ga;obtain⟨b,junk,rfl,fw,hW,ln,pU,oz,j9⟩:=cN hO.own (by omega);have jJ:(n - i)*4=((ah eC G).drop (i*4)).length:=by rw[Jaz,j9,←Nat.sub_mul]
 have a8:((ah eC G).take (i*4)).length=i*4:=by rw[JaA,j9];omega
 have fU:(η.info? 67).map (·.size)=ζ 4:=by rw[sU];simp[jO]
 have OW:i+(n+1 - i)=n+1:=by omega
 have vj:(n:Int)+1 - (i:Int)=((n+1 - i:Nat):Int):=by omega
 have zb:∀v∈(ah eC G).drop (i*4),v.oneCell'=τ:=fun v hv=>bU eC nr G v (JbC hv)
 have hold:(Builtin.firstCells iG.size i (γ (ζ ⟨b,0,ε⟩) i n)).run η W.drew=.ok ((ah eC G).take (i*4)).toArray W.drew:=by
  rw[jO]
  exact run_firstCells_some W.drew 4 i ⟨b,0,ε⟩ i n _ a8 (fun j v hj=>by
   rw[Ν,JaI];rw[List.getElem?_take] at hj;split at hj
   ·exact hW.dr.cell (i:=j) (by rw[Jab (ν.1 hj).1];exact hj)
   ·cases hj)
 obtain⟨g,hg⟩:=aB W.heap.size;obtain⟨GC,IM⟩:=aB (grownCap W (n+1) n 67);have Y9:n+1≤GC:=by rw[←IM];exact grownCap_ge W _ _ _
 have Dj:GC≤Jap:=by rw[←IM];exact grownCap_le_maxLen W (n+1) n 67 (by unfold Jap;omega)
 obtain⟨qS,xe⟩:=aB (((ah eC G).take (i*4)).toArray++JaO (JbL #[J 0,J 0,μ {data:=#[]},J 0]).cells (n+1 - i)++JaO (JbL #[J 0,J 0,μ {data:=#[]},J 0]).cells (GC - (n+1)))
 have Tk:∀ty,(JaY #[23,3] ty #[γ (ζ ⟨b,0,ε⟩) i n,J ((n:Int)+1 - (i:Int))]).run η W=.ok (γ (ζ ⟨g,0,ε⟩) (n+1) GC) (W.drew.alloc (δ qS 67)):=fun ty=>by
  have h:=Lib.run_append_grow_zeros W 23 3 ty 67 iG _ .i64 .i64 Tryz.underlying23 Tryz.underlying3 sU oS (ζ ⟨b,0,ε⟩) i n _ hold (n+1 - i) (by omega) (by omega) (by omega) (by omega) (by rw[mC];omega) (by rw[mC,OW];exact growslice_fits (by omega) (by omega));rw[OW,hg,IM,xe] at h;rw[vj];exact h
 obtain⟨Z,hZ⟩:=aB ((JaO (JbL #[J 0,J 0,μ {data:=#[]},J 0]).cells (n+1 - i)++JaO (JbL #[J 0,J 0,μ {data:=#[]},J 0]).cells (GC - (n+1))).toList)
 have G3:Z.length=(GC - i)*4:=by
  rw[←hZ,Array.length_toList,Array.size_append,Cq,Cq];omega
 have N0:qS=((ah eC G).take (i*4)++Z).toArray:=by
  rw[←xe,←hZ];simp
 have SZ:b≠g:=by have:=hW.lt;omega
 have YO:vb≠g:=by have:=hx.lt;omega
 obtain⟨P,hP⟩:=aB ((ah eC G).take (i*4));obtain⟨S,hS⟩:=aB ((ah eC G).drop (i*4));rw[hP] at a8 N0;rw[hS] at jJ zb;have BP:(P++Z).length=GC*4:=by rw[Ε,a8,G3];omega
 have AZ:Whole (W.drew.alloc (δ qS 67)) g 67 (P++Z):=by
  rw[N0];exact Whole.new2 hg.symm
 have Lm:Whole (W.drew.alloc (δ qS 67)) vb 67 (eC x):=hx.dr.alloc _;have Nc:Whole (W.drew.alloc (δ qS 67)) b 67 (ah eC G++junk):=hW.dr.alloc _;have YN:=hO.below.size;have iQ:σ w.heap.size w (W.drew.alloc (δ qS 67)):=aI (aN hO.below) _;have ly:(W.drew.alloc (δ qS 67)).heap.size=W.heap.size+1:=by simp
 have Wv:σ W.heap.size W (W.drew.alloc (δ qS 67)):=aI (aN (Θ _ _)) _;obtain⟨V1,fD⟩:=aB (W.drew.alloc (δ qS 67));rw[fD] at AZ Lm Nc iQ ly Tk Wv
 have xk:∀V,V=V1→∀ty dc,(Jbr #[23,23] ty #[γ (ζ ⟨g,i*4,ε⟩) (n+1 - i) dc,γ (ζ ⟨vb,0,ε⟩) 1 1]).run η V=.ok (goInt (1:Nat)) (V1.setCells g (i*4) (eC x)):=fun V hV ty dc=>by
  subst hV
  exact da V _ _ ty 67 4 g (i*4) (n+1 - i) dc ⟨vb,0,ε⟩ 1 1 1 _ Tryz.underlying23 fU (by simp only[JbR];split<;>omega) rfl
   (fun j v hj=>by
     rw[Ν,JaI];exact Lm.cell hj)
   (fun j hj=>dA AZ (by rw[BP];rw[bM] at hj;omega)) (fun j hj=>AZ.free _) (nr x)
 have BR:=AZ.cells_ (eC x) (i*4) V1 _ (by rw[BP,bM];omega);have OG:Whole (V1.setCells g (i*4) (eC x)) b 67 (ah eC G++junk):=Nc.cells_far SZ _ _;have jd:σ w.heap.size w (V1.setCells g (i*4) (eC x)):=below_setCells iQ (by omega) _ _;have T3:σ W.heap.size W (V1.setCells g (i*4) (eC x)):=below_setCells Wv (by omega) _ _;have kK:(V1.setCells g (i*4) (eC x)).heap.size=W.heap.size+1:=by rw[bJ,ly]
 obtain⟨V2,yV⟩:=aB (V1.setCells g (i*4) (eC x));rw[yV] at BR OG jd kK xk T3;have ob:(cU (P++Z) (i*4) (eC x)).length=GC*4:=by rw[eT _ _ _ (by rw[BP,bM];omega),BP]
 have Mz:∀ty dc sc,(Jbr #[23,23] ty #[γ (ζ ⟨g,(i+1)*4,ε⟩) (n - i) dc,γ (ζ ⟨b,i*4,ε⟩) (n - i) sc]).run η V2.drew=.ok (goInt (n - i:Nat)) (V2.drew.setCells g ((i+1)*4) S):=fun ty dc sc=>
  da V2.drew _ _ ty 67 4 g ((i+1)*4) (n - i) dc ⟨b,i*4,ε⟩ (n - i) sc (n - i) _ Tryz.underlying23 fU (by simp only[JbR];split<;>omega) jJ
   (fun j v hj=>by
     rw[Ν];rw[←hS,JaS] at hj;exact OG.dr.cell (i:=i*4+j) (by rw[Jab (ν.1 hj).1];exact hj))
   (fun j hj=>dA BR.dr (by rw[←jJ] at hj;rw[ob];omega)) (fun j hj=>BR.dr.free _) zb
 have La:=BR.dr.cells_ S ((i+1)*4) V2.drew _ (by rw[←jJ,ob];omega);rw[FK P Z (eC x) S i a8 (bM x) (by rw[←jJ,G3];omega)] at La;have iL:P++(eC x++S)=ah eC (G.take i++x::G.drop i):=by rw[←hP,←hS,(mJ i).1,(mJ i).2,bY];rfl
 have qx:(P++(eC x++S)).length=(n+1)*4:=by rw[Ε,Ε,a8,bM,←jJ];omega
 have DW:(Z.drop (4+S.length)).length=(GC - (n+1))*4:=by rw[Jaz,G3,←jJ];omega
 have HF:Hid (Ow w B 67 4 (γ (ζ ⟨g,0,ε⟩) (n+1) GC) (n+1) (ah eC (G.take i++x::G.drop i)) (V2.drew.setCells g ((i+1)*4) S)):=qh (by
  rw[←iL];exact⟨kk (junk:=Z.drop (4+S.length)) La (by have:=hO.hi;omega) (by rw[Ε,qx,DW];omega) Y9 Dj qx,below_setCells (aN jd) (by omega) _ _,hO.lo,by rw[bJ];show B≤V2.heap.size;have:=hO.hi;omega⟩)
 have Dg:Hid (W.grownBy (V2.drew.setCells g ((i+1)*4) S) (ζ b)):=qh (rW (below_setCells (aN T3) (by omega) _ _));have hz3:¬((i:Int)=(n:Int)):=by omega
 have ia:Jaw.wrap ((i:Int)+1)=(i:Int)+1:=by rw[JaT];omega
 have fT:Jaw.wrap ((n:Int)+1)=(n:Int)+1:=by rw[JaT];omega
 have du:Jaw.wrap ((n:Int)+1 - (i:Int))=(n:Int)+1 - (i:Int):=by rw[JaT];omega
 have cP:(0:Int)≤(i:Int)+1:=by omega
 have jm:i≤n:=by omega
 have Oz:((i:Int)+1).toNat=i+1:=by omega
 have aP:¬(GC=i+1):=by omega
 have bA:(i:Int)≤(n:Int):=by omega
 have ns:¬(n=i):=by omega
 have fP:¬(GC=i):=by omega
 have oE:(n:Int)<(n:Int)+1:=by omega
 unfold Jap at Dj;have mixed:η.follows JbG=τ:=by kernel_rfl
 subst fD;have My:∀ty dc,(Jbr #[23,23] ty #[γ (ζ ⟨g,i*4,ε⟩) (n+1 - i) dc,γ (ζ ⟨vb,0,ε⟩) 1 1]).run η (W.alloc (δ qS 67)).drew=.ok (goInt (1:Nat)) V2:=fun ty dc=>xk _ rfl ty dc
 clear xk yV;clear hO hx hW ln j9 YO SZ jJ fU zb hold a8 OW vj xe G3 N0 hZ BP AZ Lm Nc iQ ly Wv T3 BR OG jd kK ob La iL qx DW hP hS IM YN;go_enter Tryz.func147,Tryz.ntmps147
 go_wp2_with (first
  |(at_builtin;refine Lib.wpList_append_run _ rfl _ _ _ _ rfl _ _ rfl rfl _ _ (Tk _) ?_)
  |(at_builtin;refine wpList_copy_runI _ rfl _ _ 23 23 rfl _ _ rfl rfl (My _ _) ?_))
 go_region_law_o (refine step_copy_runI rfl _ _ 23 23 rfl _ _ (by simp[Act.eval,ξ]) (by simp[Act.eval,ξ]) (Mz _ _ _) ?_);go_wp2;go_ret;exact⟨_,_,rfl,HF.out,Dg.out⟩
theorem zW {w W:ο} {B:Nat} {A:Option Κ} {n c vb i:Nat} {G:List EC} (x:EC) (hO:Ow w B 67 4 (γ A n c) n (ah eC G) W) (hx:Whole W vb 67 (eC x)) (bj:ζ vb≠(Ο A n c).ownBlock) (hn:n≤1000) (hi:i≤n):
 Ζ η 147 #[γ A n c,J (i:Int),γ (ζ ⟨vb,0,ε⟩) 1 1] W fun e w'=>∃A' c',e=.returned (γ A' (n+1) c')∧Ow w B 67 4 (γ A' (n+1) c') (n+1) (ah eC (G.take i++x::G.drop i)) w'∧W.grownBy w' (Ο A n c).ownBlock:=by
 have pU:n≤c:=(aK hO.own).le;have Tw:G.length=n:=(aK hO.own).rlen bM (by decide);rcases JaM i n with h|h
 ·rcases JaM n c with h2|h2
  ·exact x9 x hO hx bj hn h h2
  ·obtain rfl:n=c:=by omega
   exact yo x hO hx hn h
 ·obtain rfl:n=i:=by omega
  rw[Ι (by omega),Jak (by omega)];exact AH x hO (by rw[P6];exact bg.of_whole hx rfl) hn
theorem zh {P:Program} (w:ο) (t e ty:TypeId) (z:ψ) (zs:List ψ) (ht:P.underlying t=ζ (.slice e)) (hv:∀w,(zeroValue e).run P w=.ok z w) (hz:(JaO z.cells 1).toList=zs) (h1:∀v∈zs,v.oneCell'=τ) (b o c:Nat)
 (hc:∀j,j<zs.length→(w.cell? ⟨b,o+j,ε⟩).isSome=τ∧w.frozen? ⟨b,o+j,ε⟩=ρ):
 (Builtin.clear_ #[t] ty #[γ (ζ ⟨b,o,ε⟩) 1 c]).run P w=.ok (Ξ #[]) (w.setCells b o zs):=by
 have Py:=run_storeCells_cells (P:=P) b o zs 0 w (fun j hj=>by simpa using (hc j hj).1) (fun j hj=>by simpa using (hc j hj).2) h1;simp only[Jac] at Py;simp[Builtin.clear_,run_underlying ht,hv,hz,Py]
theorem zy (X junk Z:List ψ) (i n s:Nat) (hX:X.length=n*s) (hi:i<n) (hZ:Z.length=s):cU (cU (X++junk) (i*s) (X.drop ((i+1)*s))) ((n - 1)*s) Z=(X.take (i*s)++X.drop ((i+1)*s))++(Z++junk):=by
 obtain⟨p,hp⟩:=aB (i*s);have R2:(i+1)*s=p+s:=by rw[Nat.add_mul,Nat.one_mul,hp]
 obtain⟨q,hq⟩:=aB ((n - 1)*s)
 have hq1:n*s=q+s:=by
  obtain⟨m,rfl⟩:∃m,n=m+1:=⟨n - 1,by omega⟩
  rw[Nat.add_mul,Nat.one_mul,←hq];rfl
 have hpq:p≤q:=by rw[←hp,←hq];exact Nat.mul_le_mul_right _ (by omega)
 rw[hp,R2,hq];obtain⟨Pp,hPp⟩:=aB (X.take p);obtain⟨S,hS⟩:=aB (X.drop (p+s));have R5:Pp.length=p:=by rw[←hPp,JaA];omega
 have hSl:S.length=q - p:=by rw[←hS,Jaz];omega
 have h1:cU (X++junk) p S=(Pp++S)++(X++junk).drop q:=by
  unfold cU;rw[List.take_append_of_le_length (by omega),hPp,hSl,show p+(q - p)=q by omega,Jay]
 rw[hPp,hS,h1];have hl:(Pp++S).length=q:=by rw[Ε];omega
 have e2:∀D:List ψ,cU ((Pp++S)++D) q Z=(Pp++S)++(Z++D.drop s):=fun D=>by
  unfold cU;rw[List.take_left' hl,JaR,hl,Jak (by omega),JaF,hZ,show q+s - q=s by omega,Jay]
 rw[e2,List.drop_drop,List.drop_left' (by omega)]
theorem wO {α:Type} (f:α→List ψ) {k:Nat} (hf:∀x,(f x).length=k) (L:List α) (i:Nat):(ah f L).take (i*k)++(ah f L).drop ((i+1)*k)=ah f (L.eraseIdx i):=by
 rw[←iz f hf,←jt f hf,←bY,←List.eraseIdx_eq_take_drop_succ]
theorem Vn (w:ο):(zeroValue 59).run η w=.ok (φ #[J 0,J 0,γ ε 0 0,μ {data:=#[]},J 0]) w:=by
 obtain⟨i,h1,h2,_⟩:=aW lP;simp[zeroValue,typeInfo,h1,h2]
theorem Oc (g c i n:Nat) (L:List VC) (junk:List ψ) (w:ο) (h:Whole w g 59 (ah vC L++junk)) (hL:L.length=n) (hc:(ah vC L++junk).length=c*5) (hm:c≤Jap) (hi:i<n):
 Ζ η 139 #[γ (ζ ⟨g,0,ε⟩) n c,J (i:Int),J ((i:Int)+1)] w fun e w'=>e=.returned (γ (ζ ⟨g,0,ε⟩) (n - 1) c)∧Whole w' g 59 (ah vC (L.eraseIdx i)++([J 0,J 0,γ ε 0 0,μ {data:=#[]},J 0]++junk))∧Kept (fun b=>b=g) w w':=by
 obtain⟨i0,Bz,qJ,ly,kK⟩:=aW lP;obtain⟨X,gX⟩:=aB (ah vC L);have P9:X.length=n*5:=by rw[←gX,←hL];exact cj vC aS L
 have h1:∀u∈X,u.oneCell'=τ:=by rw[←gX];exact bU vC nQ L
 have hE:X.take (i*5)++X.drop ((i+1)*5)=ah vC (L.eraseIdx i):=by rw[←gX];exact wO vC aS L i
 rw[gX] at h hc;have ln:n*5+junk.length=c*5:=by rw[←hc,Ε,P9]
 unfold Jap at hm;obtain⟨j,gj⟩:=aB (i+1);have ZH:(i:Int)+1=(j:Int):=by omega
 obtain⟨news,mo⟩:∃news,news=X.drop (j*5):=⟨_,rfl⟩
 have hlen:news.length=(n - j)*5:=by rw[mo,Jaz,P9,Nat.sub_mul]
 obtain⟨A,hA,Mq⟩:∃A:Κ,(if c=j then ζ (⟨g,0,ε⟩:Κ) else ζ ⟨g,j*5,ε⟩)=ζ A∧Hid (∀t u,news[t]? =ζ u→w.drew.cell? (A.add t)=ζ u):=by
  by_cases hcj:c=j
  ·refine⟨⟨g,0,ε⟩,by simp[hcj],fun t u hu=>?_⟩
   have h0:news.length=0:=by rw[hlen];omega
   rw[List.length_eq_zero_iff.1 h0] at hu;simp at hu
  ·refine⟨⟨g,j*5,ε⟩,by simp[hcj],fun t u hu=>?_⟩
   rw[Ν];rw[mo,JaS] at hu;refine h.dr.cell (i:=j*5+t) ?_;rw[Jab (ν.1 hu).1];exact hu
 have s1:Hid (news.length=(n - j)*5):=hlen;have s2:Hid (∀u∈news,u.oneCell'=τ):=fun u hu=>h1 u (by rw[mo] at hu;exact JbC hu)
 have Yx:w.drew.there g (i*5) news.length:=(Whole.drew h).there_ (i*5) news.length (by rw[hc,hlen];omega);have s3:Hid (∀t,t<news.length→(w.drew.cell? ⟨g,0+i*5+t,ε⟩).isSome=τ∧w.drew.frozen? ⟨g,0+i*5+t,ε⟩=ρ):=qh (fun t ht=>by rw[JaI];exact Yx t ht);obtain⟨W1,oR⟩:∃W1,W1=w.drew.setCells g (0+i*5) news:=⟨_,rfl⟩
 have Gc:Whole W1 g 59 (cU (X++junk) (i*5) (X.drop ((i+1)*5))):=by
  rw[oR,JaI,gj,←mo];exact(Whole.drew h).cells_ news (i*5) w.drew _ (by rw[hc,hlen];omega)
 have vW:Kept (fun b=>b=g) w W1:=by
  rw[oR];exact(Kept.refl _ _).drew.trans (di (S:=fun b=>b=g) rfl _ _)
 have a8:(cU (X++junk) (i*5) (X.drop ((i+1)*5))).length=c*5:=by rw[eT _ _ _ (by rw[gj,←mo,hc,hlen];omega),hc]
 have DW:([J 0,J 0,γ ε 0 0,μ {data:=#[]},J 0]:List ψ).length=5:=rfl
 have adt:∀ty cc,(Builtin.clear_ #[22] ty #[γ (ζ ⟨g,(n - 1)*5,ε⟩) 1 cc]).run η W1=.ok (Ξ #[]) (W1.setCells g ((n - 1)*5) [J 0,J 0,γ ε 0 0,μ {data:=#[]},J 0]):=
  fun ty cc=>zh W1 _ _ ty _ _ Tryz.underlying22 Vn (by first|kernel_rfl|(simp[JaO,Value.cells];rfl)) (by simp[Τ]) g ((n - 1)*5) _ (fun t ht=>(Gc.there_ ((n - 1)*5) 5 (by rw[a8];omega)) t ht)
 have jw:Whole (W1.setCells g ((n - 1)*5) [J 0,J 0,γ ε 0 0,μ {data:=#[]},J 0]) g 59 (ah vC (L.eraseIdx i)++([J 0,J 0,γ ε 0 0,μ {data:=#[]},J 0]++junk)):=by
  have h9:=Gc.cells_ [J 0,J 0,γ ε 0 0,μ {data:=#[]},J 0] ((n - 1)*5) W1 _ (by rw[a8,DW];omega);rw[zy X junk [J 0,J 0,γ ε 0 0,μ {data:=#[]},J 0] i n 5 P9 hi DW,hE] at h9;exact h9
 have HE:=qh jw;have HK:Hid (Kept (fun b=>b=g) w (W1.setCells g ((n - 1)*5) [J 0,J 0,γ ε 0 0,μ {data:=#[]},J 0])):=qh (vW.trans (di (S:=fun b=>b=g) rfl _ _));have hW:Hid (W1=w.drew.setCells g (0+i*5) news):=oR;have hic:i≤c:=by omega
 have hjc:j≤c:=by omega
 have ur:i≤j:=by omega
 have heq:¬i=j:=by omega
 have nT:j≤n:=by omega
 have pU:n≤c:=by omega
 have hN:i+(n - j)=n - 1:=by omega
 have AZ:n - (n - 1)=1:=by omega
 have mixed:η.follows JbG=τ:=by kernel_rfl
 rw[ZH];clear oR Gc vW a8 jw mo hlen Yx h hc h1 hi ln gj ZH gX P9 hE DW hL;go_enter Tryz.func139,Tryz.ntmps139;go_wp2_with fail
 go_region_law_o (refine step_append_room rfl (.tmp 22) (.tmp 25) 22 rfl 59 i0 5 Tryz.underlying22 Bz ly g 0 i c (by simp[Act.eval,ξ]) A (n - j) (c - j) news (by simp[Act.eval,ξ]) s1.out Mq.out s2.out (by omega) s3.out ?_;rw[←hW.out]);go_wp2;go_ret;exact⟨rfl,HE.out,HK.out⟩
theorem Ua (w:ο):(zeroValue 67).run η w=.ok (φ #[J 0,J 0,μ {data:=#[]},J 0]) w:=by
 obtain⟨i,h1,h2,_⟩:=aW pK;simp[zeroValue,typeInfo,h1,h2]
theorem OM (g c i n:Nat) (L:List EC) (junk:List ψ) (w:ο) (h:Whole w g 67 (ah eC L++junk)) (hL:L.length=n) (hc:(ah eC L++junk).length=c*4) (hm:c≤Jap) (hi:i<n):
 Ζ η 154 #[γ (ζ ⟨g,0,ε⟩) n c,J (i:Int),J ((i:Int)+1)] w fun e w'=>e=.returned (γ (ζ ⟨g,0,ε⟩) (n - 1) c)∧Whole w' g 67 (ah eC (L.eraseIdx i)++([J 0,J 0,μ {data:=#[]},J 0]++junk))∧Kept (fun b=>b=g) w w':=by
 obtain⟨i0,Bz,qJ,ly,kK⟩:=aW pK;obtain⟨X,gX⟩:=aB (ah eC L);have P9:X.length=n*4:=by rw[←gX,←hL];exact cj eC bM L
 have h1:∀u∈X,u.oneCell'=τ:=by rw[←gX];exact bU eC nr L
 have hE:X.take (i*4)++X.drop ((i+1)*4)=ah eC (L.eraseIdx i):=by rw[←gX];exact wO eC bM L i
 rw[gX] at h hc;have ln:n*4+junk.length=c*4:=by rw[←hc,Ε,P9]
 unfold Jap at hm;obtain⟨j,gj⟩:=aB (i+1);have ZH:(i:Int)+1=(j:Int):=by omega
 obtain⟨news,mo⟩:∃news,news=X.drop (j*4):=⟨_,rfl⟩
 have hlen:news.length=(n - j)*4:=by rw[mo,Jaz,P9,Nat.sub_mul]
 obtain⟨A,hA,Mq⟩:∃A:Κ,(if c=j then ζ (⟨g,0,ε⟩:Κ) else ζ ⟨g,j*4,ε⟩)=ζ A∧Hid (∀t u,news[t]? =ζ u→w.drew.cell? (A.add t)=ζ u):=by
  by_cases hcj:c=j
  ·refine⟨⟨g,0,ε⟩,by simp[hcj],fun t u hu=>?_⟩
   have h0:news.length=0:=by rw[hlen];omega
   rw[List.length_eq_zero_iff.1 h0] at hu;simp at hu
  ·refine⟨⟨g,j*4,ε⟩,by simp[hcj],fun t u hu=>?_⟩
   rw[Ν];rw[mo,JaS] at hu;refine h.dr.cell (i:=j*4+t) ?_;rw[Jab (ν.1 hu).1];exact hu
 have s1:Hid (news.length=(n - j)*4):=hlen;have s2:Hid (∀u∈news,u.oneCell'=τ):=fun u hu=>h1 u (by rw[mo] at hu;exact JbC hu)
 have Yx:w.drew.there g (i*4) news.length:=(Whole.drew h).there_ (i*4) news.length (by rw[hc,hlen];omega);have s3:Hid (∀t,t<news.length→(w.drew.cell? ⟨g,0+i*4+t,ε⟩).isSome=τ∧w.drew.frozen? ⟨g,0+i*4+t,ε⟩=ρ):=qh (fun t ht=>by rw[JaI];exact Yx t ht);obtain⟨W1,oR⟩:∃W1,W1=w.drew.setCells g (0+i*4) news:=⟨_,rfl⟩
 have Gc:Whole W1 g 67 (cU (X++junk) (i*4) (X.drop ((i+1)*4))):=by
  rw[oR,JaI,gj,←mo];exact(Whole.drew h).cells_ news (i*4) w.drew _ (by rw[hc,hlen];omega)
 have vW:Kept (fun b=>b=g) w W1:=by
  rw[oR];exact(Kept.refl _ _).drew.trans (di (S:=fun b=>b=g) rfl _ _)
 have a8:(cU (X++junk) (i*4) (X.drop ((i+1)*4))).length=c*4:=by rw[eT _ _ _ (by rw[gj,←mo,hc,hlen];omega),hc]
 have DW:([J 0,J 0,μ {data:=#[]},J 0]:List ψ).length=4:=rfl
 have adt:∀ty cc,(Builtin.clear_ #[23] ty #[γ (ζ ⟨g,(n - 1)*4,ε⟩) 1 cc]).run η W1=.ok (Ξ #[]) (W1.setCells g ((n - 1)*4) [J 0,J 0,μ {data:=#[]},J 0]):=
  fun ty cc=>zh W1 _ _ ty _ _ Tryz.underlying23 Ua (by first|kernel_rfl|(simp[JaO,Value.cells];rfl)) (by simp[Τ]) g ((n - 1)*4) _ (fun t ht=>(Gc.there_ ((n - 1)*4) 4 (by rw[a8];omega)) t ht)
 have jw:Whole (W1.setCells g ((n - 1)*4) [J 0,J 0,μ {data:=#[]},J 0]) g 67 (ah eC (L.eraseIdx i)++([J 0,J 0,μ {data:=#[]},J 0]++junk)):=by
  have h9:=Gc.cells_ [J 0,J 0,μ {data:=#[]},J 0] ((n - 1)*4) W1 _ (by rw[a8,DW];omega);rw[zy X junk [J 0,J 0,μ {data:=#[]},J 0] i n 4 P9 hi DW,hE] at h9;exact h9
 have HE:=qh jw;have HK:Hid (Kept (fun b=>b=g) w (W1.setCells g ((n - 1)*4) [J 0,J 0,μ {data:=#[]},J 0])):=qh (vW.trans (di (S:=fun b=>b=g) rfl _ _));have hW:Hid (W1=w.drew.setCells g (0+i*4) news):=oR;have hic:i≤c:=by omega
 have hjc:j≤c:=by omega
 have ur:i≤j:=by omega
 have heq:¬i=j:=by omega
 have nT:j≤n:=by omega
 have pU:n≤c:=by omega
 have hN:i+(n - j)=n - 1:=by omega
 have AZ:n - (n - 1)=1:=by omega
 have mixed:η.follows JbG=τ:=by kernel_rfl
 rw[ZH];clear oR Gc vW a8 jw mo hlen Yx h hc h1 hi ln gj ZH gX P9 hE DW hL;go_enter Tryz.func154,Tryz.ntmps154;go_wp2_with fail
 go_region_law_o (refine step_append_room rfl (.tmp 22) (.tmp 25) 23 rfl 67 i0 4 Tryz.underlying23 Bz ly g 0 i c (by simp[Act.eval,ξ]) A (n - j) (c - j) news (by simp[Act.eval,ξ]) s1.out Mq.out s2.out (by omega) s3.out ?_;rw[←hW.out]);go_wp2;go_ret;exact⟨rfl,HE.out,HK.out⟩
end Go.Proofs.YtpdpbfmiahjiiaaGreat
