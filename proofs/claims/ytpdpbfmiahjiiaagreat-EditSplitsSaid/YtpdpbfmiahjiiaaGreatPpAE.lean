/- Several texts in one. -/
import Derived.Test.YtpdpbfmiahjiiaaGreatPpAB
import Derived.Test.YtpdpbfmiahjiiaaGreatPpAC
import Derived.Test.YtpdpbfmiahjiiaaGreatPpAD
set_option linter.unusedSectionVars false
set_option linter.unusedSimpArgs false
set_option linter.unusedVariables false
set_option maxRecDepth 100000
set_option maxHeartbeats 16000000
namespace Go.Proofs.YtpdpbfmiahjiiaaGreat
open Go.RowKit
open _root_.Go.Value renaming slice→γ,string→μ,pointer→υ,agg→φ,bool→Β,tuple→Ξ
open _root_.Go.Obj renaming cells→δ
open _root_.Option renaming none→ε,some→ζ,some→Jae
open _root_.Go.Proofs.Tryz renaming prog→η
open _root_.List renaming getElem?_eq_getElem→θ,map_cons→ι,mem_cons→Η,mem_filter→JaC,not_mem_nil→Jbh,getElem_of_mem→Jbv,flatMap_cons→Jby
open _root_.Go renaming World→ο,Calls→Ζ,Addr→Κ,bodyPost_ret→JaN
open _root_.Bool renaming false→ρ,true→τ
open _root_.Go.RowKit renaming Below→σ
open _root_.Nat renaming le_refl→Δ,add_zero→Jac,zero_le→Jas,lt_or_ge→JaM
open _root_.Go.RowKit.Below renaming refl→Θ
open _root_.Option.some renaming inj→Μ
open _root_.Go.Addr renaming add_lit→Ν
open _root_.Prod.mk renaming injEq→Jba
theorem Ax {α:Type} {k:α→Nm} (v:α):∀l:List α,(eS k l v).Perm (v::l)
 |[]=>List.Perm.refl _
 |u::l=>by
  rw[eS];split
  ·exact List.Perm.refl _
  ·exact((Ax v l).cons u).trans (List.Perm.swap v u l)
theorem wj.new {V:List VS} (h:wj V) {x:Nm} {l:List D} {t:ByteArray × Int} (hx:bo V x=ρ) (hl:l.Nodup) (ht:aS l=l) (hd:∀d∈l,cM V d=ρ):
 wj (eY V (x,l,t))∧∀d,cM (eY V (x,l,t)) d=τ↔d∈l∨cM V d=τ:=by
 have hp:=Ax (k:=fun v:VS=>v.1) (x,l,t) V
 refine⟨⟨?_,?_,fun v hv=>?_⟩,fun d=>?_⟩
 ·unfold eY;rw[(hp.map (·.1)).nodup_iff,ι,List.nodup_cons]
  refine⟨fun q=>?_,h.keys⟩
  obtain⟨v,hv,e⟩:=List.mem_map.1 q;exact ju.1 hx v hv e
 ·unfold eY;rw[(hp.flatMap_right _).nodup_iff,Jby,List.nodup_append]
  refine⟨hl,h.once,fun a ha b hb e=>?_⟩
  obtain⟨v,hv,UW⟩:=List.mem_flatMap.1 hb;exact qB (hd a ha) hv (e▸UW)
 ·rcases dx.1 hv with rfl|hv
  ·exact ht
  ·exact h.turned v hv
 ·rw[dq,dq];constructor
  ·rintro⟨v,hv,hd⟩;rcases dx.1 hv with rfl|hv
   ·exact .inl hd
   ·exact .inr ⟨v,hv,hd⟩
  ·rintro (hd|⟨v,hv,hd⟩)
   ·exact⟨_,dx.2 (.inl rfl),hd⟩
   ·exact⟨v,dx.2 (.inr hv),hd⟩
theorem xz {α β:Type} {f:α→List β} {p:α→Bool}:∀l:List α,((l.filter p).flatMap f).Sublist (l.flatMap f)
 |[]=>List.Sublist.refl _
 |a::l=>by
  rw[Jby]
  by_cases h:p a=τ
  ·rw[List.filter_cons_of_pos h,Jby];exact(List.Sublist.refl _).append (xz l)
  ·rw[List.filter_cons_of_neg h];exact(xz l).trans (List.sublist_append_right _ _)
theorem wj.cut {V:List VS} (h:wj V) {u:VS} (hu:u∈V):wj (dw V u.1)∧∀d,cM (dw V u.1) d=τ↔¬d∈u.2.1∧cM V d=τ:=by
 have hs:(dw V u.1).Sublist V:=List.filter_sublist
 refine⟨⟨(hs.map _).nodup h.keys,(xz _).nodup h.once,fun v hv=>h.turned v (hs.subset hv)⟩,fun d=>?_⟩
 rw[dq,dq];constructor
 ·rintro⟨v,hv,hd⟩;obtain⟨h1,h2⟩:=JaC.1 hv;exact⟨fun q=>of_decide_eq_true h2 (by rw[fR h.once h1 hu hd q]),v,h1,hd⟩
 ·rintro⟨hn,v,hv,hd⟩
  refine⟨v,JaC.2 ⟨hv,decide_eq_true (fun e=>hn ?_)⟩,hd⟩
  rw[←rO h.keys hv hu e];exact hd
theorem Mn {x y:Nm} (h:¬x=y) (s t:Int):¬aU x s=aU y t:=fun e=>h (congrArg dS e)
theorem nK {x:Nm} {s t:Int} (h:¬s=t):¬aU x s=aU x t:=fun e=>h (congrArg (fun d:D=>d.2.2) e)
theorem Am {a b:D} (h:¬a=b):[a,b].Nodup:=by simp[h]
theorem LG {a b:D} (h:¬a=b):aS (aS [a,b])=aS [a,b]:=qv (Am h)
theorem Hw {V:List VS} {v:VS} (h:pW (fun v:VS=>v.1) V) (hx:bo V v.1=ρ):pW (fun v:VS=>v.1) (eY V v):=wO h (ju.1 hx)
theorem CY {E:List EC} {e:EC} (h:pW (fun e:EC=>e.1) E) (hx:bN E e.1=ρ):pW (fun e:EC=>e.1) (iP E e):=wO h (ju.1 hx)
theorem e7.addV {S:SS} (h:e7 S) {x:Nm} {t:ByteArray × Int} (hx:bo S.1 x=ρ):e7 (eY S.1 (x,[],t),S.2):=by
 obtain⟨r,m⟩:=h.rg.new (l:=[]) (t:=t) hx List.nodup_nil rfl (fun d hd=>(by cases hd));have m':∀d,cM (eY S.1 (x,[],t)) d=τ↔cM S.1 d=τ:=fun d=>by rw[m d];simp
 exact e7.mk_ (E:=S.2.1) (G:=S.2.2) (Hw h.vup hx) h.eup r (fun d hd=>h.std ((m' d).1 hd)) (fun y hy=>⟨(m' _).2 (h.end_ hy).1,(m' _).2 (h.end_ hy).2⟩)
theorem e7.remV {S:SS} (h:e7 S) {u:VS} (hu:u∈S.1) (hr:u.2.1=[]):e7 (dw S.1 u.1,S.2):=by
 obtain⟨r,m⟩:=h.rg.cut hu;have m':∀d,cM (dw S.1 u.1) d=τ↔cM S.1 d=τ:=fun d=>by rw[m d,hr];simp
 exact e7.mk_ (E:=S.2.1) (G:=S.2.2) (tB h.vup) h.eup r (fun d hd=>h.std ((m' d).1 hd)) (fun y hy=>⟨(m' _).2 (h.end_ hy).1,(m' _).2 (h.end_ hy).2⟩)
theorem e7.link {S:SS} (h:e7 S) {x:Nm} {a b:Nm × D} {t:ByteArray × Int} (hx:bN S.2.1 x=ρ) (ha:bo S.1 a.1=τ) (hb:bo S.1 b.1=τ) (G:List Gn):
 e7 (dW (dW S.1 a (aU x 0)) b (aU x 1),iP S.2.1 (x,t),G):=by
 have h0:=h.no_ (d:=aU x 0) hx;have h1:=h.no_ (d:=aU x 1) hx;obtain⟨r1,m1⟩:=h.rg.ins ha h0
 have h1':cM (dW S.1 a (aU x 0)) (aU x 1)=ρ:=by
  cases hq:cM (dW S.1 a (aU x 0)) (aU x 1) with
  |false=>rfl
  |true=>
   rcases (m1 _).1 hq with e|e
   ·exact absurd e (nK (by decide))
   ·rw[h1] at e;cases e
 obtain⟨r2,m2⟩:=r1.ins (c:=b) (by rw[nj (rU _ _ _)];exact hb) h1';refine e7.mk_ (nR h.vup (by rw[rU,rU])) (CY h.eup hx) r2 (fun d hd=>?_) (fun y hy=>?_)
 ·rcases (m2 d).1 hd with rfl|hd
  ·exact⟨kt.2 (.inl rfl),.inr rfl⟩
  ·rcases (m1 d).1 hd with rfl|hd
   ·exact⟨kt.2 (.inl rfl),.inl rfl⟩
   ·exact⟨kt.2 (.inr (h.std hd).1),(h.std hd).2⟩
 ·rcases kt.1 hy with rfl|hy
  ·exact⟨(m2 _).2 (.inr ((m1 _).2 (.inl rfl))),(m2 _).2 (.inl rfl)⟩
  ·exact⟨(m2 _).2 (.inr ((m1 _).2 (.inr (h.end_ hy).1))),(m2 _).2 (.inr ((m1 _).2 (.inr (h.end_ hy).2)))⟩
theorem e7.split {S:SS} (h:e7 S) {x nw ot:Nm} {s t:Int} {p q:ByteArray × Int} (hx:bN S.2.1 x=τ) (hn:bo S.1 nw=ρ) (ho:bN S.2.1 ot=ρ) (hs:s=0∨s=1) (ht:t=0∨t=1) (G:List Gn):
 e7 (eY (dn S.1 (aU x s) (aU ot (1 - t))) (nw,aS [aU x s,aU ot t],p),iP S.2.1 (ot,q),G):=by
 have cu:¬x=ot:=fun e=>by rw[e,ho] at hx;cases hx
 have hm:cM S.1 (aU x s)=τ:=by rcases hs with rfl|rfl;exact(h.end_ hx).1;exact(h.end_ hx).2
 have hk:∀r,cM S.1 (aU ot r)=ρ:=fun r=>h.no_ (d:=aU ot r) ho
 obtain⟨r1,m1⟩:=h.rg.swp hm (hk (1 - t))
 have h1:cM (dn S.1 (aU x s) (aU ot (1 - t))) (aU x s)=ρ:=by
  cases hq:cM (dn S.1 (aU x s) (aU ot (1 - t))) (aU x s) with
  |false=>rfl
  |true=>
   rcases (m1 _).1 hq with e|e
   ·exact absurd e (Mn cu _ _)
   ·exact absurd rfl e.1
 have h2:cM (dn S.1 (aU x s) (aU ot (1 - t))) (aU ot t)=ρ:=by
  cases hq:cM (dn S.1 (aU x s) (aU ot (1 - t))) (aU ot t) with
  |false=>rfl
  |true=>
   rcases (m1 _).1 hq with e|e
   ·exact absurd e (nK (by omega))
   ·rw[hk] at e;exact absurd e.2 (by decide)
 have hmk:¬aU x s=aU ot t:=Mn cu _ _
 obtain⟨r2,m2⟩:=r1.new (x:=nw) (l:=aS [aU x s,aU ot t]) (t:=p) (by rw[nj (jT _ _ _)];exact hn) (lB (Am hmk)) (LG hmk) (fun d hd=>by
  have hd:=ks.1 hd;simp only[Η,Jbh,or_false] at hd;rcases hd with rfl|rfl
  ·exact h1
  ·exact h2)
 have m:∀d,cM (eY (dn S.1 (aU x s) (aU ot (1 - t))) (nw,aS [aU x s,aU ot t],p)) d=τ↔d=aU ot t∨d=aU ot (1 - t)∨cM S.1 d=τ:=fun d=>by
  rw[m2,ks,m1];simp only[Η,Jbh,or_false];constructor
  ·rintro ((e|e)|e|⟨-,e⟩)
   ·exact .inr (.inr (e▸hm))
   ·exact .inl e
   ·exact .inr (.inl e)
   ·exact .inr (.inr e)
  ·rintro (e|e|e)
   ·exact .inl (.inr e)
   ·exact .inr (.inl e)
   ·by_cases e2:d=aU x s
    ·exact .inl (.inl e2)
    ·exact .inr (.inr ⟨e2,e⟩)
 refine e7.mk_ (Hw (nR h.vup (jT _ _ _)) (by rw[nj (jT _ _ _)];exact hn)) (CY h.eup ho) r2 (fun d hd=>?_) (fun y hy=>?_)
 ·rcases (m d).1 hd with rfl|rfl|hd
  ·exact⟨kt.2 (.inl rfl),ht⟩
  ·exact⟨kt.2 (.inl rfl),by show 1 - t=0∨1 - t=1;omega⟩
  ·exact⟨kt.2 (.inr (h.std hd).1),(h.std hd).2⟩
 ·rcases kt.1 hy with e9|hy
  ·have e9:y=ot:=e9;rw[e9]
   have e:∀r:Int,r=0∨r=1→cM (eY (dn S.1 (aU x s) (aU ot (1 - t))) (nw,aS [aU x s,aU ot t],p)) (aU ot r)=τ:=fun r hr=>(m _).2 (by
    by_cases e:r=t
    ·exact .inl (by rw[e])
    ·exact .inr (.inl (by rw[show r=1 - t by omega])))
   exact⟨e 0 (.inl rfl),e 1 (.inr rfl)⟩
  ·exact⟨(m _).2 (.inr (.inr (h.end_ hy).1)),(m _).2 (.inr (.inr (h.end_ hy).2))⟩
theorem ug {l:List D} {ot:Nm} {a b:D} (h:gH l ot=ζ (a,b)):(l=[a,b]∨l=[b,a])∧¬dS a=dS b∧dS b=ot:=by
 unfold gH at h;split at h
 ·rename_i p q;split at h
  ·cases h
  ·rename_i cu;split at h
   ·rename_i e;simp only[Jae.injEq,Jba] at h;obtain⟨rfl,rfl⟩:=h;exact⟨.inr rfl,fun q=>cu q.symm,e⟩
   ·split at h
    ·rename_i e;simp only[Jae.injEq,Jba] at h;obtain⟨rfl,rfl⟩:=h;exact⟨.inl rfl,cu,e⟩
    ·cases h
 ·cases h
theorem e7.smooth {S:SS} (h:e7 S) {u:VS} (hu:u∈S.1) {ot:Nm} {a b:D} (hm:gH u.2.1 ot=ζ (a,b)) (G:List Gn):
 e7 (dn (dw S.1 u.1) (b.1,b.2.1,1 - b.2.2) a,js S.2.1 ot,G):=by
 obtain⟨hl,cu,hb⟩:=ug hm;have kW:∀d,d∈u.2.1↔d=a∨d=b:=fun d=>by rcases hl with e|e<;>rw[e]<;>simp[or_comm]
 have sa:cM S.1 a=τ:=dq.2 ⟨u,hu,(kW a).2 (.inl rfl)⟩;have sb:cM S.1 b=τ:=dq.2 ⟨u,hu,(kW b).2 (.inr rfl)⟩;obtain⟨kb,tb⟩:=h.std sb;rw[hb] at kb;have ef:((b.1,b.2.1,1 - b.2.2):D)=aU ot (1 - b.2.2):=by rw[←hb];rfl
 have eb:b=aU ot b.2.2:=oB hb rfl;have hao:¬dS a=ot:=fun e=>cu (e.trans hb.symm)
 rw[ef];obtain⟨r1,m1⟩:=h.rg.cut hu;have hfa:¬aU ot (1 - b.2.2)=a:=fun e=>hao (by rw[←e];rfl)
 have hfb:¬aU ot (1 - b.2.2)=b:=fun e=>by
  have:(1:Int) - b.2.2=b.2.2:=congrArg (fun d:D=>d.2.2) e
  omega
 have sf:cM S.1 (aU ot (1 - b.2.2))=τ:=by
  rcases tb with e|e<;>rw[e]
  ·exact(h.end_ kb).2
  ·exact(h.end_ kb).1
 have c1:cM (dw S.1 u.1) (aU ot (1 - b.2.2))=τ:=(m1 _).2 ⟨fun q=>by rcases (kW _).1 q with e|e;exact hfa e;exact hfb e,sf⟩
 have c2:cM (dw S.1 u.1) a=ρ:=by
  cases hq:cM (dw S.1 u.1) a with
  |false=>rfl
  |true=>exact absurd ((kW a).2 (.inl rfl)) ((m1 _).1 hq).1
 obtain⟨r2,m2⟩:=r1.swp c1 c2
 have m:∀d,cM (dn (dw S.1 u.1) (aU ot (1 - b.2.2)) a) d=τ↔cM S.1 d=τ∧¬dS d=ot:=fun d=>by
  rw[m2,m1,kW];constructor
  ·rintro (e|⟨e1,e2,e3⟩)
   ·rw[e];exact⟨sa,hao⟩
   ·refine⟨e3,fun q=>?_⟩
    have hs:=(h.std e3).2
    by_cases q2:d.2.2=b.2.2
    ·exact e2 (.inr (by rw[eb];exact oB q q2))
    ·exact e1 (oB q (by omega))
  ·rintro⟨e1,e2⟩
   by_cases e:d=a
   ·exact .inl e
   ·exact .inr ⟨fun q=>e2 (by rw[q];rfl),fun q=>by rcases q with q|q;exact e q;exact e2 (by rw[q];exact hb),e1⟩
 refine e7.mk_ (nR (tB h.vup) (jT _ _ _)) (tB h.eup) r2 (fun d hd=>?_) (fun y hy=>?_)
 ·obtain⟨e1,e2⟩:=(m d).1 hd;exact⟨ti.2 ⟨e2,(h.std e1).1⟩,(h.std e1).2⟩
 ·obtain⟨e1,e2⟩:=ti.1 hy;exact⟨(m _).2 ⟨(h.end_ e2).1,e1⟩,(m _).2 ⟨(h.end_ e2).2,e1⟩⟩
section
variable {α:Type} {k:α→Nm}
def gi (k:α→Nm) (l:List α) (x:Nm):Int:=if qg k l x=τ then(l.findIdx (fun v=>decide (k v=x)):Int) else -1
theorem iA {l:List α} {x:Nm} (h:qg k l x=ρ):gi k l x= -1:=by unfold gi;rw[h];rfl
theorem ij {l:List α} {x:Nm} (h:qg k l x=τ):∃(i:Nat) (v:α),gi k l x=(i:Int)∧l[i]? =ζ v∧k v=x∧i<l.length:=by
 obtain⟨v,hv,e⟩:=eB.1 h;have hi:l.findIdx (fun v=>decide (k v=x))<l.length:=List.findIdx_lt_length_of_exists ⟨v,hv,decide_eq_true e⟩
 refine⟨_,l[l.findIdx (fun v=>decide (k v=x))],by unfold gi;rw[if_pos h],θ hi,?_,hi⟩
 exact of_decide_eq_true (List.findIdx_getElem (w:=hi))
theorem IZ {l:List α} {x:Nm} {i:Nat} {v:α} (hv:l[i]? =ζ v) (e:k v=x) (hn:∀t u,l[t]? =ζ u→t<i→¬k u=x):gi k l x=(i:Int):=by
 have h:qg k l x=τ:=eB.2 ⟨v,List.mem_of_getElem? hv,e⟩;obtain⟨hi,hvi⟩:=List.getElem?_eq_some_iff.1 hv;unfold gi;rw[if_pos h,(List.findIdx_eq hi).2 ⟨by rw[hvi];exact decide_eq_true e,fun j hj=>decide_eq_false (hn j _ (θ (by omega)) hj)⟩]
end
theorem xB {S:SS} (h:e7 S) {u:VS} (hu:u∈S.1) {ot:Nm} {a b:D} (hm:gH u.2.1 ot=ζ (a,b)):(b=aU ot 0∨b=aU ot 1)∧((b.1,b.2.1,1 - b.2.2):D)=aU ot (1 - b.2.2)∧cM (dw S.1 u.1) (b.1,b.2.1,1 - b.2.2)=τ:=by
 obtain⟨hl,cu,hb⟩:=ug hm;have kW:∀d,d∈u.2.1↔d=a∨d=b:=fun d=>by rcases hl with e|e<;>rw[e]<;>simp[or_comm]
 have sb:cM S.1 b=τ:=dq.2 ⟨u,hu,(kW b).2 (.inr rfl)⟩;obtain⟨kb,tb⟩:=h.std sb;rw[hb] at kb;have ef:((b.1,b.2.1,1 - b.2.2):D)=aU ot (1 - b.2.2):=by rw[←hb];rfl
 refine⟨by rcases tb with e|e;exact .inl (oB hb e);exact .inr (oB hb e),ef,?_⟩
 rw[ef]
 refine((h.rg.cut hu).2 _).2 ⟨fun q=>?_,by rcases tb with e|e<;>rw[e];exact(h.end_ kb).2;exact(h.end_ kb).1⟩
 rcases (kW _).1 q with e|e
 ·exact cu (by rw[←e,hb];rfl)
 ·have:(1:Int) - b.2.2=b.2.2:=congrArg (fun d:D=>d.2.2) e
  omega
theorem AW {S:SS} (h:e7 S) {u:VS} (hu:u∈S.1) {ot:Nm} {a b:D} (hm:gH u.2.1 ot=ζ (a,b)):rings (dw S.1 u.1) (fun l=>aS (fo l (b.1,b.2.1,1 - b.2.2) a))=dn (dw S.1 u.1) (b.1,b.2.1,1 - b.2.2) a:=by
 have r1:=(h.rg.cut hu).1;exact qy r1.keys r1.once r1.turned (xB h hu hm).2.2
theorem uH {ot:Nm} {b:D} (hb:b=aU ot 0∨b=aU ot 1) {s:Int} (hs:s=0∨s=1) {a:D}:(if aU ot s=b then zD else a)=if aU ot s=aU ot (1 - b.2.2) then a else zD:=by
 have e0:1 - (aU ot 0).2.2=1:=rfl;have e1:1 - (aU ot 1).2.2=0:=rfl;rcases hb with rfl|rfl<;>rcases hs with rfl|rfl
 ·rw[e0,if_pos rfl,if_neg (nK (by decide))]
 ·rw[e0,if_neg (nK (by decide)),if_pos rfl]
 ·rw[e1,if_neg (nK (by decide)),if_pos rfl]
 ·rw[e1,if_pos rfl,if_neg (nK (by decide))]
theorem He (Vs:List VC) (x:D):kj Vs x=(wh (Vs.map vS) x,cM (Vs.map vS) x):=by
 induction Vs with
 |nil=>rfl
 |cons v Vs ih=>
  by_cases h:x∈v.2.1.2.2.2
  ·have e1:kj (v::Vs) x=(v.1,τ):=by unfold kj;rw[List.find?_cons_of_pos (by exact decide_eq_true h)]
   have e2:wh ((v::Vs).map vS) x=v.1:=by unfold wh;rw[ι,List.find?_cons_of_pos (by exact decide_eq_true h)];rfl
   have e3:cM ((v::Vs).map vS) x=τ:=dq.2 ⟨vS v,by simp,h⟩;rw[e1,e2,e3]
  ·have e1:kj (v::Vs) x=kj Vs x:=by unfold kj;rw[List.find?_cons_of_neg (by simpa using h)]
   have e2:wh ((v::Vs).map vS) x=wh (Vs.map vS) x:=by unfold wh;rw[ι,List.find?_cons_of_neg (by show ¬decide (x∈v.2.1.2.2.2)=τ;simpa using h)]
   have e3:cM ((v::Vs).map vS) x=cM (Vs.map vS) x:=by
    unfold cM;rw[ι,List.any_cons]
    show(decide (x∈v.2.1.2.2.2)||_)=_
    rw[decide_eq_false h];rfl
   rw[e1,e2,e3,ih]
theorem Xu (Vs:List VC):Hh Vs=cM (Vs.map vS):=funext (fun x=>by unfold Hh;rw[He])
theorem dO (Vs:List VC) (x:Nm):(bu Vs x).2=bo (Vs.map vS) x∧(bu Vs x).1.2.1.2.2.2=cL (Vs.map vS) x:=by
 induction Vs with
 |nil=>exact⟨rfl,rfl⟩
 |cons v Vs ih=>
  by_cases h:v.1=x
  ·have e1:bu (v::Vs) x=(v,τ):=wB _ _ _ _ _ h;have e2:cL ((v::Vs).map vS) x=v.2.1.2.2.2:=by unfold cL;rw[ι,List.find?_cons_of_pos (by exact decide_eq_true h)];rfl
   have e3:bo ((v::Vs).map vS) x=τ:=eB.2 ⟨vS v,by simp,h⟩;rw[e1,e2,e3];exact⟨rfl,rfl⟩
  ·have e1:bu (v::Vs) x=bu Vs x:=BX _ _ _ _ _ h;have e2:cL ((v::Vs).map vS) x=cL (Vs.map vS) x:=by unfold cL;rw[ι,List.find?_cons_of_neg (by show ¬decide (v.1=x)=τ;simpa using h)]
   have e3:bo ((v::Vs).map vS) x=bo (Vs.map vS) x:=by
    unfold bo qg;rw[ι,List.any_cons]
    show(decide (v.1=x)||_)=_
    rw[decide_eq_false h];rfl
   rw[e1,e2,e3];exact ih
theorem um (Vs:List VC):(Vs.map vS).map (·.1)=Vs.map (·.1):=by rw[List.map_map];rfl
theorem Rp (Vs:List VC):(Vs.map vS).flatMap (fun v=>v.2.1)=Vs.flatMap (fun v=>v.2.1.2.2.2):=by rw[List.flatMap_map];rfl
theorem NT (bx:Nat) (x1 x2:Int) (v:VC) (w:ο) (h:Whole w bx 30 [J x1,J x2]):Ζ η 134 #[φ (vC v).toArray,υ (ζ ⟨bx,0,ε⟩)] w fun e w'=>e=.returned (Β (decide (v.1=(x1,x2))))∧σ w.heap.size w w':=by
 obtain⟨⟨i1,i2⟩,⟨rA,rn,rc,rL⟩,lb,at_⟩:=v;show Ζ η 134 #[φ #[J i1,J i2,γ rA rn rc,μ lb,J at_],υ (ζ ⟨bx,0,ε⟩)] w fun e w'=>e=.returned (Β (decide ((i1,i2)=(x1,x2))))∧σ w.heap.size w w'
 have hx:=h.al (δ #[J i1,J i2,γ rA rn rc,μ lb,J at_] 59);have c0:=hx.cell (i:=0) rfl;have c1:=hx.cell (i:=1) rfl;have hB:=qh (ax w (δ #[J i1,J i2,γ rA rn rc,μ lb,J at_] 59));clear h hx
 by_cases h1:i1=x1
 ·subst h1
  by_cases h2:i2=x2
  ·subst h2;go_enter Tryz.func134,Tryz.ntmps134;go_wp2;go_ret;exact⟨by simp,hB.out⟩
  ·go_enter Tryz.func134,Tryz.ntmps134;go_wp2;go_ret;exact⟨by simp[h2],hB.out⟩
 ·go_enter Tryz.func134,Tryz.ntmps134;go_wp2;go_ret;exact⟨by simp[h1],hB.out⟩
theorem Kz (A:Option Κ) (n c bx:Nat) (x1 x2:Int) (Vs:List VC) (w:ο) (h:aX w w.heap.size 5 A n c (aj vC Vs)) (hx:Whole w bx 30 [J x1,J x2]) (hn:n≤1000000):
 Ζ η 133 #[γ A n c,.func (.func 134) #[] #[υ (ζ ⟨bx,0,ε⟩)]] w fun e w'=>e=.returned (J (gi (fun v:VC=>v.1) Vs (x1,x2)))∧σ w.heap.size w w':=by
 have H:=qh h;have HX:=qh hx;have Hl:=qh (h.rlen aQ (by decide));have he:QI 134:=rN Tryz.func134 (by kernel_rfl) rfl;clear h hx;go_enter Tryz.func133,Tryz.ntmps133;go_wp2;go_loopw [8] (fun i wr=>∃k:Nat,k≤n∧i=J (k:Int)∧Hid (∀t u,Vs[t]? =ζ u→t<k→¬u.1=(x1,x2))∧Hid (σ w.heap.size w wr)) (fun i _=>n - (intOf i).toNat)
 case atStart=>exact⟨0,Jas _,rfl,qh (fun t u _ h=>absurd h (Nat.not_lt_zero t)),qh (Θ _ _)⟩
 case round=>
  obtain⟨k,hk,rfl,HN,HB⟩:=hrel;obtain⟨wo,ec⟩:=ay wr;rw[ec] at HB ⊢;clear ec
  by_cases fh:k<n
  ·obtain⟨v,hv⟩:∃v,Vs[k]? =ζ v:=⟨_,θ (by have:=Hl.out;omega)⟩
   have hR:=H.out.bl HB.out;obtain⟨b,off,rfl,bD,bM⟩:=hR.place aQ (by decide) (by omega);have hp:=bM k v hv;have HV:=qh hv;have Ru:(k:Int)<(n:Int):=by omega
   have HC:=qh (NT bx x1 x2 v wo (HX.out.bl HB.out))
   have Hn1:Hid (¬v.1=(x1,x2)→∀t u,Vs[t]? =ζ u→t<k+1→¬u.1=(x1,x2)):=qh (fun cu t u ht fh=>by
    rcases JaM t k with h1|h1
    ·exact HN.out t u ht h1
    ·obtain rfl:t=k:=by omega
     rw[HV.out] at ht;obtain rfl:=Μ ht;exact cu)
   have Hy1:Hid (v.1=(x1,x2)→gi (fun v:VC=>v.1) Vs (x1,x2)=(k:Int)):=qh (fun e=>IZ HV.out e (fun t u ht fh=>HN.out t u ht fh));obtain⟨dd,Tg⟩:=ay (decide (v.1=(x1,x2)));rw[Tg] at HC;have Hd:=qh Tg;clear Tg hv bM bD hR;obtain⟨⟨i1,i2⟩,⟨rA,rn,rc,rL⟩,lb,at_⟩:=v;have HC:Hid (Ζ η 134 #[φ #[J i1,J i2,γ rA rn rc,μ lb,J at_],υ (ζ ⟨bx,0,ε⟩)] wo fun e w'=>e=.returned (Β dd)∧σ wo.heap.size wo w'):=HC;have l0:=hp 0 _ rfl;have l1:=hp 1 _ rfl;have l2:=hp 2 _ rfl;have l3:=hp 3 _ rfl;have l4:=hp 4 _ rfl;simp only[Ν,Jac] at l0 l1 l2 l3 l4;clear hp;cases dd with
   |true=>
    have Hy:=qh (Hy1.out (of_decide_eq_true Hd.out))
    go_wp2_with (first
     |(go_at_call 134
       refine HC.out.mono ?_;rintro e w3 ⟨rfl,bC⟩;have cI:=qh (af HB.out bC);clear bC))
    go_ret;rw[Hy.out];exact⟨rfl,cI.out⟩
   |false=>
    have Hn:=qh (Hn1.out (of_decide_eq_false Hd.out))
    go_wp2_with (first
     |(go_at_call 134
       refine HC.out.mono ?_;rintro e w3 ⟨rfl,bC⟩;have cI:=qh (af HB.out bC);clear bC))
    go_roundw
    case rel=>exact⟨k+1,by omega,by go_num,Hn,cI⟩
    case measure=>simp[intOf];omega
  ·obtain rfl:k=n:=by omega
   have hnl:¬(k:Int)<(k:Int):=by omega
   have Hno:Hid (gi (fun v:VC=>v.1) Vs (x1,x2)= -1):=qh (iA (ju.2 (fun u hu=>by
    obtain⟨t,ht,e⟩:=Jbv hu;exact HN.out t u (by rw[θ ht,e]) (by have:=Hl.out;omega))))
   go_wp2;go_ret;rw[Hno.out];exact⟨rfl,HB.out⟩
theorem O9 (bx:Nat) (x1 x2:Int) (v:EC) (w:ο) (h:Whole w bx 30 [J x1,J x2]):Ζ η 141 #[φ (eC v).toArray,υ (ζ ⟨bx,0,ε⟩)] w fun e w'=>e=.returned (Β (decide (v.1=(x1,x2))))∧σ w.heap.size w w':=by
 obtain⟨⟨i1,i2⟩,lb,at_⟩:=v;show Ζ η 141 #[φ #[J i1,J i2,μ lb,J at_],υ (ζ ⟨bx,0,ε⟩)] w fun e w'=>e=.returned (Β (decide ((i1,i2)=(x1,x2))))∧σ w.heap.size w w'
 have hx:=h.al (δ #[J i1,J i2,μ lb,J at_] 67);have c0:=hx.cell (i:=0) rfl;have c1:=hx.cell (i:=1) rfl;have hB:=qh (ax w (δ #[J i1,J i2,μ lb,J at_] 67));clear h hx
 by_cases h1:i1=x1
 ·subst h1
  by_cases h2:i2=x2
  ·subst h2;go_enter Tryz.func141,Tryz.ntmps141;go_wp2;go_ret;exact⟨by simp,hB.out⟩
  ·go_enter Tryz.func141,Tryz.ntmps141;go_wp2;go_ret;exact⟨by simp[h2],hB.out⟩
 ·go_enter Tryz.func141,Tryz.ntmps141;go_wp2;go_ret;exact⟨by simp[h1],hB.out⟩
theorem Jy (A:Option Κ) (n c bx:Nat) (x1 x2:Int) (Vs:List EC) (w:ο) (h:aX w w.heap.size 4 A n c (aj eC Vs)) (hx:Whole w bx 30 [J x1,J x2]) (hn:n≤1000000):
 Ζ η 140 #[γ A n c,.func (.func 141) #[] #[υ (ζ ⟨bx,0,ε⟩)]] w fun e w'=>e=.returned (J (gi (fun v:EC=>v.1) Vs (x1,x2)))∧σ w.heap.size w w':=by
 have H:=qh h;have HX:=qh hx;have Hl:=qh (h.rlen bF (by decide));have he:QI 141:=rN Tryz.func141 (by kernel_rfl) rfl;clear h hx;go_enter Tryz.func140,Tryz.ntmps140;go_wp2;go_loopw [8] (fun i wr=>∃k:Nat,k≤n∧i=J (k:Int)∧Hid (∀t u,Vs[t]? =ζ u→t<k→¬u.1=(x1,x2))∧Hid (σ w.heap.size w wr)) (fun i _=>n - (intOf i).toNat)
 case atStart=>exact⟨0,Jas _,rfl,qh (fun t u _ h=>absurd h (Nat.not_lt_zero t)),qh (Θ _ _)⟩
 case round=>
  obtain⟨k,hk,rfl,HN,HB⟩:=hrel;obtain⟨wo,ec⟩:=ay wr;rw[ec] at HB ⊢;clear ec
  by_cases fh:k<n
  ·obtain⟨v,hv⟩:∃v,Vs[k]? =ζ v:=⟨_,θ (by have:=Hl.out;omega)⟩
   have hR:=H.out.bl HB.out;obtain⟨b,off,rfl,bD,bM⟩:=hR.place bF (by decide) (by omega);have hp:=bM k v hv;have HV:=qh hv;have Ru:(k:Int)<(n:Int):=by omega
   have HC:=qh (O9 bx x1 x2 v wo (HX.out.bl HB.out))
   have Hn1:Hid (¬v.1=(x1,x2)→∀t u,Vs[t]? =ζ u→t<k+1→¬u.1=(x1,x2)):=qh (fun cu t u ht fh=>by
    rcases JaM t k with h1|h1
    ·exact HN.out t u ht h1
    ·obtain rfl:t=k:=by omega
     rw[HV.out] at ht;obtain rfl:=Μ ht;exact cu)
   have Hy1:Hid (v.1=(x1,x2)→gi (fun v:EC=>v.1) Vs (x1,x2)=(k:Int)):=qh (fun e=>IZ HV.out e (fun t u ht fh=>HN.out t u ht fh));obtain⟨dd,Tg⟩:=ay (decide (v.1=(x1,x2)));rw[Tg] at HC;have Hd:=qh Tg;clear Tg hv bM bD hR;obtain⟨⟨i1,i2⟩,lb,at_⟩:=v;have HC:Hid (Ζ η 141 #[φ #[J i1,J i2,μ lb,J at_],υ (ζ ⟨bx,0,ε⟩)] wo fun e w'=>e=.returned (Β dd)∧σ wo.heap.size wo w'):=HC;have l0:=hp 0 _ rfl;have l1:=hp 1 _ rfl;have l2:=hp 2 _ rfl;have l3:=hp 3 _ rfl;simp only[Ν,Jac] at l0 l1 l2 l3;clear hp;cases dd with
   |true=>
    have Hy:=qh (Hy1.out (of_decide_eq_true Hd.out))
    go_wp2_with (first
     |(go_at_call 141
       refine HC.out.mono ?_;rintro e w3 ⟨rfl,bC⟩;have cI:=qh (af HB.out bC);clear bC))
    go_ret;rw[Hy.out];exact⟨rfl,cI.out⟩
   |false=>
    have Hn:=qh (Hn1.out (of_decide_eq_false Hd.out))
    go_wp2_with (first
     |(go_at_call 141
       refine HC.out.mono ?_;rintro e w3 ⟨rfl,bC⟩;have cI:=qh (af HB.out bC);clear bC))
    go_roundw
    case rel=>exact⟨k+1,by omega,by go_num,Hn,cI⟩
    case measure=>simp[intOf];omega
  ·obtain rfl:k=n:=by omega
   have hnl:¬(k:Int)<(k:Int):=by omega
   have Hno:Hid (gi (fun v:EC=>v.1) Vs (x1,x2)= -1):=qh (iA (ju.2 (fun u hu=>by
    obtain⟨t,ht,e⟩:=Jbv hu;exact HN.out t u (by rw[θ ht,e]) (by have:=Hl.out;omega))))
   go_wp2;go_ret;rw[Hno.out];exact⟨rfl,HB.out⟩
theorem j7 (g:Nat) (A:Option Κ) (n c:Nat) (B:Option Κ) (m k:Nat) (C:Option Κ) (r rc:Nat) (x1 x2:Int) (L:List VC) (w:ο) (hg:Whole w g 28 [γ A n c,γ B m k,γ C r rc]) (h:aX w w.heap.size 5 A n c (aj vC L)) (hn:n≤1000000):
 Ζ η 110 #[υ (ζ ⟨g,0,ε⟩),φ #[J x1,J x2]] w fun e w'=>e=.returned (J (gi (fun v:VC=>v.1) L (x1,x2)))∧σ w.heap.size w w':=by
 have hx:Whole (w.alloc (δ #[J x1,J x2] 30)) w.heap.size 30 [J x1,J x2]:=Whole.new_ _ _ [_,_];have hb:=ax w (δ #[J x1,J x2] 30);have hG:=hg.al (δ #[J x1,J x2] 30);have HI:=qh (Kz _ _ _ _ x1 x2 L _ (h.bl hb) hx hn);have HB:=qh hb;have c0:=hG.cell (i:=0) rfl;clear hx hb hG hg h;go_enter Tryz.func110,Tryz.ntmps110
 go_wp2_with (first
  |(go_at_call 133
    refine HI.out.mono ?_;rintro e w3 ⟨rfl,bC⟩;have cI:=qh (af HB.out bC);clear bC))
 go_ret;exact⟨rfl,cI.out⟩
theorem iz (g:Nat) (A:Option Κ) (n c:Nat) (B:Option Κ) (m k:Nat) (C:Option Κ) (r rc:Nat) (x1 x2:Int) (L:List EC) (w:ο) (hg:Whole w g 28 [γ A n c,γ B m k,γ C r rc]) (h:aX w w.heap.size 4 B m k (aj eC L)) (hn:m≤1000000):
 Ζ η 113 #[υ (ζ ⟨g,0,ε⟩),φ #[J x1,J x2]] w fun e w'=>e=.returned (J (gi (fun v:EC=>v.1) L (x1,x2)))∧σ w.heap.size w w':=by
 have hx:Whole (w.alloc (δ #[J x1,J x2] 30)) w.heap.size 30 [J x1,J x2]:=Whole.new_ _ _ [_,_];have hb:=ax w (δ #[J x1,J x2] 30);have hG:=hg.al (δ #[J x1,J x2] 30);have HI:=qh (Jy _ _ _ _ x1 x2 L _ (h.bl hb) hx hn);have HB:=qh hb;have c0:=hG.cell (i:=1) rfl;clear hx hb hG hg h;go_enter Tryz.func113,Tryz.ntmps113
 go_wp2_with (first
  |(go_at_call 140
    refine HI.out.mono ?_;rintro e w3 ⟨rfl,bC⟩;have cI:=qh (af HB.out bC);clear bC))
 go_ret;exact⟨rfl,cI.out⟩
theorem DP (v:VC) (x1 x2:Int) (w:ο):Ζ η 136 #[φ (vC v).toArray,φ #[J x1,J x2]] w fun e w'=>e=.returned (J (dF v.1 (x1,x2)))∧σ w.heap.size w w':=by
 have HO:=qh (tZ v.1.1 v.1.2 x1 x2);obtain⟨o,go⟩:=ay (dF v.1 (x1,x2));have HO:Hid (∀w,Ζ η 137 #[φ #[J v.1.1,J v.1.2],φ #[J x1,J x2]] w fun e w'=>e=.returned (J o)∧σ w.heap.size w w'):=qh (by rw[←go];exact HO.out);rw[go];clear go;obtain⟨⟨i1,i2⟩,⟨rA,rn,rc,rL⟩,lb,at_⟩:=v;show Ζ η 136 #[φ #[J i1,J i2,γ rA rn rc,μ lb,J at_],φ #[J x1,J x2]] w _;have HO:Hid (∀w,Ζ η 137 #[φ #[J i1,J i2],φ #[J x1,J x2]] w fun e w'=>e=.returned (J o)∧σ w.heap.size w w'):=HO;go_enter Tryz.func136,Tryz.ntmps136
 go_wp2_with (first
  |(go_at_call 137
    refine(HO.out _).mono ?_
    rintro e w2 ⟨rfl,hb⟩;have HB:=qh (af (aE (ax w (δ #[J i1,J i2,γ rA rn rc,μ lb,J at_] 59)) (δ #[J x1,J x2] 30)) hb);clear hb))
 go_ret;exact⟨rfl,HB.out⟩
theorem QP (A:Option Κ) (n c:Nat) (G:List VC) (x1 x2:Int) (w:ο) (h:aX w w.heap.size 5 A n c (aj vC G)) (hn:n≤1000000) (cf:Nat→Int) (IY:∀t x,G[t]? =ζ x→dF x.1 (x1,x2)=cf t) (kK:∀a b,a≤b→b<n→cf b<0→cf a<0):
 Ζ η 135 #[γ A n c,φ #[J x1,J x2],.func (.func 136) #[] #[]] w fun e w'=>∃i:Nat,i≤n∧(∀t,t<i→cf t<0)∧(∀t,i≤t→t<n→0≤cf t)∧e=.returned (Ξ #[J (i:Int),Β (decide (i<n) && decide (cf i=0))])∧σ w.heap.size w w':=by
 have H:=qh h;have Hl:=qh (h.rlen aQ (by decide));have HM:=qh kK;have he:QI 136:=rN Tryz.func136 (by kernel_rfl) rfl;clear h kK;go_enter Tryz.func135,Tryz.ntmps135;go_wp2;have kM:=Whole.new_ w 30 [J x1,J x2];have qL:=ax w (δ #[J x1,J x2] 30);obtain⟨W0,bP⟩:=ay (w.alloc (δ #[J x1,J x2] 30));replace kM:Whole W0 w.heap.size 30 [J x1,J x2]:=bP▸kM;rw[bP] at qL ⊢;obtain⟨b0,bK⟩:=ay w.heap.size;rw[bK] at kM ⊢;have aN:=qh kM;have a8:=qh qL;clear bP bK kM qL;go_loopw [9,10] (fun s9 OK wr=>∃lo hi:Nat,s9=J lo∧OK=J hi∧lo≤hi∧hi≤n∧Hid (Whole wr b0 30 [J x1,J x2])∧Hid (σ w.heap.size w wr)∧Hid ((∀t,t<lo→cf t<0)∧(∀t,hi≤t→t<n→0≤cf t))) (fun s9 OK _=>(intOf OK).toNat - (intOf s9).toNat)
 case atStart=>exact⟨0,n,rfl,rfl,Jas _,Δ _,aN,a8,qh ⟨fun t ht=>absurd ht (Nat.not_lt_zero _),fun t h1 h2=>by omega⟩⟩
 case round=>
  clear aN a8;obtain⟨lo,hi,rfl,rfl,hlh,lh,HX,HB,HI⟩:=hrel;obtain⟨wo,ec⟩:=ay wr;rw[ec] at HX HB ⊢;clear ec
  by_cases fh:lo<hi
  ·obtain⟨m,gm⟩:=ay ((lo+hi) / 2);have ZU:lo≤m:=by omega
   have Sx:m<hi:=by omega
   have hmn:m<n:=by omega
   have e1:((lo:Int)+(hi:Int)) / 2=(m:Int):=by omega
   obtain⟨x,hx⟩:∃x,G[m]? =ζ x:=⟨_,θ (by have:=Hl.out;omega)⟩
   obtain⟨b,off,rfl,bD,bM⟩:=H.out.place aQ (by decide) (by omega);have cR:=HB.out;have yi:=IY m x hx;have uX:=DP x x1 x2;have hp:=bM m x hx;obtain⟨ov,uh⟩:=ay (dF x.1 (x1,x2));rw[uh] at yi uX;obtain⟨⟨i1,i2⟩,⟨rA,rn,rc,rL⟩,lb,at_⟩:=x;have q0:=hp 0 _ rfl;have q1:=hp 1 _ rfl;have q2:=hp 2 _ rfl;have q3:=hp 3 _ rfl;have q4:=hp 4 _ rfl;simp only[Ν,Jac] at q0 q1 q2 q3 q4;have l0:=(cR.cell (p:=⟨b,off+m*5,ε⟩) bD).trans q0;have l1:=(cR.cell (p:=⟨b,off+m*5+1,ε⟩) bD).trans q1;have l2:=(cR.cell (p:=⟨b,off+m*5+2,ε⟩) bD).trans q2;have l3:=(cR.cell (p:=⟨b,off+m*5+3,ε⟩) bD).trans q3;have l4:=(cR.cell (p:=⟨b,off+m*5+4,ε⟩) bD).trans q4;have HC:Hid (∀w',Ζ η 136 #[φ #[J i1,J i2,γ rA rn rc,μ lb,J at_],φ #[J x1,J x2]] w' fun e cT=>e=.returned (J ov)∧σ w'.heap.size w' cT):=qh uX;have As:Hid (ov=cf m):=qh yi;clear hx bM hp bD cR q0 q1 q2 q3 q4 yi uh uX;go_upto_region 5 with fail
   have fv:=bW l0;have ld1:=bW l1;have kO:=bW l2;have pt:=bW l3;have sU:=bW l4;have qC:=dm (i:=0) HX.out rfl;have qw:=dm (i:=1) HX.out rfl;clear l0 l1 l2 l3 l4
   by_cases pK:ov<0
   ·have hq:decide (ov<0)=τ:=decide_eq_true pK;have wA:Hid ((∀t,t<m+1→cf t<0)∧(∀t,hi≤t→t<n→0≤cf t)):=qh ⟨fun t ht=>HM.out t m (by omega) (by omega) (by rw[←As.out];exact pK),HI.out.2⟩;clear pK HI As;refine aw (aF) (by kernel_rfl) ?_;refine ag 0 ?_;refine ag 1 ?_;refine ag 2 ?_;refine ag 3 ?_;refine ag 4 ?_;refine ag 5 ?_;refine bY 6 (hy:=by apply ck;rfl;rotate_left;intro w' aB;exact HC.out w';intro w';go_simp) (h:=?_);refine ag 7 ?_;refine aD (by kernel_rfl) ?_ _;intro W3 fu;have cI:=qh (af (aL HB.out) fu);have dp:=qh (HX.out.dr.bl fu);clear fu HB HX fv ld1 kO pt sU qC qw HC;go_wp2;go_roundw
    case rel=>exact⟨m+1,hi,by go_num,rfl,by omega,lh,dp,cI,wA⟩
    case measure=>simp[intOf];omega
   ·have hq:decide (ov<0)=ρ:=decide_eq_false pK;have wA:Hid ((∀t,t<lo→cf t<0)∧(∀t,m≤t→t<n→0≤cf t)):=qh ⟨HI.out.1,fun t ht Ma=>Int.not_lt.1 fun h=>by have:=HM.out m t ht Ma h;rw[←As.out] at this;omega⟩;clear pK HI As;refine aw (aF) (by kernel_rfl) ?_;refine ag 0 ?_;refine ag 1 ?_;refine ag 2 ?_;refine ag 3 ?_;refine ag 4 ?_;refine ag 5 ?_;refine bY 6 (hy:=by apply ck;rfl;rotate_left;intro w' aB;exact HC.out w';intro w';go_simp) (h:=?_);refine ag 7 ?_;refine aD (by kernel_rfl) ?_ _;intro W3 fu;have cI:=qh (af (aL HB.out) fu);have dp:=qh (HX.out.dr.bl fu);clear fu HB HX fv ld1 kO pt sU qC qw HC;go_wp2;go_roundw
    case rel=>exact⟨lo,m,rfl,by first|rfl|go_num,by omega,by omega,dp,cI,wA⟩
    case measure=>simp[intOf];omega
  ·obtain rfl:hi=lo:=by omega
   by_cases vN:hi<n
   ·have e2:(hi:Int)<(n:Int):=by omega
    have e3:¬(hi:Int)<(hi:Int):=by omega
    obtain⟨x,hx⟩:∃x,G[hi]? =ζ x:=⟨_,θ (by have:=Hl.out;omega)⟩
    obtain⟨b,off,rfl,bD,bM⟩:=H.out.place aQ (by decide) (by omega);have cR:=HB.out;have yi:=IY hi x hx;have uX:=DP x x1 x2;have hp:=bM hi x hx;obtain⟨ov,uh⟩:=ay (dF x.1 (x1,x2));rw[uh] at yi uX;obtain⟨⟨i1,i2⟩,⟨rA,rn,rc,rL⟩,lb,at_⟩:=x;have q0:=hp 0 _ rfl;have q1:=hp 1 _ rfl;have q2:=hp 2 _ rfl;have q3:=hp 3 _ rfl;have q4:=hp 4 _ rfl;simp only[Ν,Jac] at q0 q1 q2 q3 q4;have l0:=(cR.cell (p:=⟨b,off+hi*5,ε⟩) bD).trans q0;have l1:=(cR.cell (p:=⟨b,off+hi*5+1,ε⟩) bD).trans q1;have l2:=(cR.cell (p:=⟨b,off+hi*5+2,ε⟩) bD).trans q2;have l3:=(cR.cell (p:=⟨b,off+hi*5+3,ε⟩) bD).trans q3;have l4:=(cR.cell (p:=⟨b,off+hi*5+4,ε⟩) bD).trans q4;have HC:Hid (∀w',Ζ η 136 #[φ #[J i1,J i2,γ rA rn rc,μ lb,J at_],φ #[J x1,J x2]] w' fun e cT=>e=.returned (J ov)∧σ w'.heap.size w' cT):=qh uX;have As:Hid (ov=cf hi):=qh yi;clear hx bM hp bD cR q0 q1 q2 q3 q4 yi uh uX;obtain⟨bq,KK⟩:=ay ((ov==0))
    have kC:(decide (hi<n) && decide (cf hi=0))=bq:=by
     rw[decide_eq_true vN,←As.out,←KK,Bool.true_and,Bool.eq_iff_iff,decide_eq_true_iff,beq_iff_eq]
    have xK:=qh kC;clear kC;go_upto_region 8 with fail
    have fv:=bW l0;have ld1:=bW l1;have kO:=bW l2;have pt:=bW l3;have sU:=bW l4;have qC:=dm (i:=0) HX.out rfl;have qw:=dm (i:=1) HX.out rfl;clear l0 l1 l2 l3 l4;refine aw (aF) (by kernel_rfl) ?_;refine ag 0 ?_;refine ag 1 ?_;refine ag 2 ?_;refine ag 3 ?_;refine ag 4 ?_;refine ag 5 ?_;refine ag 6 ?_;refine ag 7 ?_;refine ag 8 ?_;refine ag 9 ?_;refine ag 10 ?_;refine bY 11 (hy:=by apply ck;rfl;rotate_left;intro w' aB;exact HC.out w';intro w';go_simp) (h:=?_);refine ag 12 ?_;refine ag 13 ?_;refine ag 14 ?_;refine ag 15 ?_;refine aD (by kernel_rfl) ?_ _;intro W3 fu;have cI:=qh (af (aL HB.out) fu);clear fu HB HX fv ld1 kO pt sU qC qw HC;go_wp2;refine JaN (v:=Ξ #[J (hi:Int),Β bq]) (by simp[results,Tryz.results135,go_sem]) rfl ?_;exact⟨hi,lh,HI.out.1,HI.out.2,by rw[xK.out],cI.out⟩
   ·have e2:¬(hi:Int)<(n:Int):=by omega
    have e3:¬(hi:Int)<(hi:Int):=by omega
    have kC:(decide (hi<n) && decide (cf hi=0))=ρ:=by rw[decide_eq_false vN];rfl
    have xK:=qh kC;clear kC;go_upto_region 8 with fail
    refine aw (aF) (by kernel_rfl) ?_;refine ag 0 ?_;refine ag 1 ?_;refine ag 2 ?_;refine ag 3 ?_;refine ag 4 ?_;refine bg 5 ?_;refine bg 6 ?_;refine bg 7 ?_;refine bg 8 ?_;refine bg 9 ?_;refine bg 10 ?_;refine bg 11 ?_;refine bg 12 ?_;refine ag 13 ?_;refine ag 14 ?_;refine ag 15 ?_;refine aD (by kernel_rfl) ?_ _;intro W3 fu;have cI:=qh (af (aL HB.out) fu);clear fu HB HX;go_wp2;refine JaN (v:=Ξ #[J (hi:Int),Β ρ]) (by simp[results,Tryz.results135,go_sem]) rfl ?_;exact⟨hi,lh,HI.out.1,HI.out.2,by rw[xK.out],cI.out⟩
theorem CC (v:EC) (x1 x2:Int) (w:ο):Ζ η 146 #[φ (eC v).toArray,φ #[J x1,J x2]] w fun e w'=>e=.returned (J (dF v.1 (x1,x2)))∧σ w.heap.size w w':=by
 have HO:=qh (tZ v.1.1 v.1.2 x1 x2);obtain⟨o,go⟩:=ay (dF v.1 (x1,x2));have HO:Hid (∀w,Ζ η 137 #[φ #[J v.1.1,J v.1.2],φ #[J x1,J x2]] w fun e w'=>e=.returned (J o)∧σ w.heap.size w w'):=qh (by rw[←go];exact HO.out);rw[go];clear go;obtain⟨⟨i1,i2⟩,lb,at_⟩:=v;show Ζ η 146 #[φ #[J i1,J i2,μ lb,J at_],φ #[J x1,J x2]] w _;have HO:Hid (∀w,Ζ η 137 #[φ #[J i1,J i2],φ #[J x1,J x2]] w fun e w'=>e=.returned (J o)∧σ w.heap.size w w'):=HO;go_enter Tryz.func146,Tryz.ntmps146
 go_wp2_with (first
  |(go_at_call 137
    refine(HO.out _).mono ?_
    rintro e w2 ⟨rfl,hb⟩;have HB:=qh (af (aE (ax w (δ #[J i1,J i2,μ lb,J at_] 67)) (δ #[J x1,J x2] 30)) hb);clear hb))
 go_ret;exact⟨rfl,HB.out⟩
theorem RE (A:Option Κ) (n c:Nat) (G:List EC) (x1 x2:Int) (w:ο) (h:aX w w.heap.size 4 A n c (aj eC G)) (hn:n≤1000000) (cf:Nat→Int) (IY:∀t x,G[t]? =ζ x→dF x.1 (x1,x2)=cf t) (kK:∀a b,a≤b→b<n→cf b<0→cf a<0):
 Ζ η 145 #[γ A n c,φ #[J x1,J x2],.func (.func 146) #[] #[]] w fun e w'=>∃i:Nat,i≤n∧(∀t,t<i→cf t<0)∧(∀t,i≤t→t<n→0≤cf t)∧e=.returned (Ξ #[J (i:Int),Β (decide (i<n) && decide (cf i=0))])∧σ w.heap.size w w':=by
 have H:=qh h;have Hl:=qh (h.rlen bF (by decide));have HM:=qh kK;have he:QI 146:=rN Tryz.func146 (by kernel_rfl) rfl;clear h kK;go_enter Tryz.func145,Tryz.ntmps145;go_wp2;have kM:=Whole.new_ w 30 [J x1,J x2];have qL:=ax w (δ #[J x1,J x2] 30);obtain⟨W0,bP⟩:=ay (w.alloc (δ #[J x1,J x2] 30));replace kM:Whole W0 w.heap.size 30 [J x1,J x2]:=bP▸kM;rw[bP] at qL ⊢;obtain⟨b0,bK⟩:=ay w.heap.size;rw[bK] at kM ⊢;have aN:=qh kM;have a8:=qh qL;clear bP bK kM qL;go_loopw [9,10] (fun s9 OK wr=>∃lo hi:Nat,s9=J lo∧OK=J hi∧lo≤hi∧hi≤n∧Hid (Whole wr b0 30 [J x1,J x2])∧Hid (σ w.heap.size w wr)∧Hid ((∀t,t<lo→cf t<0)∧(∀t,hi≤t→t<n→0≤cf t))) (fun s9 OK _=>(intOf OK).toNat - (intOf s9).toNat)
 case atStart=>exact⟨0,n,rfl,rfl,Jas _,Δ _,aN,a8,qh ⟨fun t ht=>absurd ht (Nat.not_lt_zero _),fun t h1 h2=>by omega⟩⟩
 case round=>
  clear aN a8;obtain⟨lo,hi,rfl,rfl,hlh,lh,HX,HB,HI⟩:=hrel;obtain⟨wo,ec⟩:=ay wr;rw[ec] at HX HB ⊢;clear ec
  by_cases fh:lo<hi
  ·obtain⟨m,gm⟩:=ay ((lo+hi) / 2);have ZU:lo≤m:=by omega
   have Sx:m<hi:=by omega
   have hmn:m<n:=by omega
   have e1:((lo:Int)+(hi:Int)) / 2=(m:Int):=by omega
   obtain⟨x,hx⟩:∃x,G[m]? =ζ x:=⟨_,θ (by have:=Hl.out;omega)⟩
   obtain⟨b,off,rfl,bD,bM⟩:=H.out.place bF (by decide) (by omega);have cR:=HB.out;have yi:=IY m x hx;have uX:=CC x x1 x2;have hp:=bM m x hx;obtain⟨ov,uh⟩:=ay (dF x.1 (x1,x2));rw[uh] at yi uX;obtain⟨⟨i1,i2⟩,lb,at_⟩:=x;have q0:=hp 0 _ rfl;have q1:=hp 1 _ rfl;have q2:=hp 2 _ rfl;have q3:=hp 3 _ rfl;simp only[Ν,Jac] at q0 q1 q2 q3;have l0:=(cR.cell (p:=⟨b,off+m*4,ε⟩) bD).trans q0;have l1:=(cR.cell (p:=⟨b,off+m*4+1,ε⟩) bD).trans q1;have l2:=(cR.cell (p:=⟨b,off+m*4+2,ε⟩) bD).trans q2;have l3:=(cR.cell (p:=⟨b,off+m*4+3,ε⟩) bD).trans q3;have HC:Hid (∀w',Ζ η 146 #[φ #[J i1,J i2,μ lb,J at_],φ #[J x1,J x2]] w' fun e cT=>e=.returned (J ov)∧σ w'.heap.size w' cT):=qh uX;have As:Hid (ov=cf m):=qh yi;clear hx bM hp bD cR q0 q1 q2 q3 yi uh uX;go_upto_region 5 with fail
   have fv:=bW l0;have ld1:=bW l1;have kO:=bW l2;have pt:=bW l3;have qC:=dm (i:=0) HX.out rfl;have qw:=dm (i:=1) HX.out rfl;clear l0 l1 l2 l3
   by_cases pK:ov<0
   ·have hq:decide (ov<0)=τ:=decide_eq_true pK;have wA:Hid ((∀t,t<m+1→cf t<0)∧(∀t,hi≤t→t<n→0≤cf t)):=qh ⟨fun t ht=>HM.out t m (by omega) (by omega) (by rw[←As.out];exact pK),HI.out.2⟩;clear pK HI As;refine aw (aF) (by kernel_rfl) ?_;refine ag 0 ?_;refine ag 1 ?_;refine ag 2 ?_;refine ag 3 ?_;refine ag 4 ?_;refine ag 5 ?_;refine bY 6 (hy:=by apply ck;rfl;rotate_left;intro w' aB;exact HC.out w';intro w';go_simp) (h:=?_);refine ag 7 ?_;refine aD (by kernel_rfl) ?_ _;intro W3 fu;have cI:=qh (af (aL HB.out) fu);have dp:=qh (HX.out.dr.bl fu);clear fu HB HX fv ld1 kO pt qC qw HC;go_wp2;go_roundw
    case rel=>exact⟨m+1,hi,by go_num,rfl,by omega,lh,dp,cI,wA⟩
    case measure=>simp[intOf];omega
   ·have hq:decide (ov<0)=ρ:=decide_eq_false pK;have wA:Hid ((∀t,t<lo→cf t<0)∧(∀t,m≤t→t<n→0≤cf t)):=qh ⟨HI.out.1,fun t ht Ma=>Int.not_lt.1 fun h=>by have:=HM.out m t ht Ma h;rw[←As.out] at this;omega⟩;clear pK HI As;refine aw (aF) (by kernel_rfl) ?_;refine ag 0 ?_;refine ag 1 ?_;refine ag 2 ?_;refine ag 3 ?_;refine ag 4 ?_;refine ag 5 ?_;refine bY 6 (hy:=by apply ck;rfl;rotate_left;intro w' aB;exact HC.out w';intro w';go_simp) (h:=?_);refine ag 7 ?_;refine aD (by kernel_rfl) ?_ _;intro W3 fu;have cI:=qh (af (aL HB.out) fu);have dp:=qh (HX.out.dr.bl fu);clear fu HB HX fv ld1 kO pt qC qw HC;go_wp2;go_roundw
    case rel=>exact⟨lo,m,rfl,by first|rfl|go_num,by omega,by omega,dp,cI,wA⟩
    case measure=>simp[intOf];omega
  ·obtain rfl:hi=lo:=by omega
   by_cases vN:hi<n
   ·have e2:(hi:Int)<(n:Int):=by omega
    have e3:¬(hi:Int)<(hi:Int):=by omega
    obtain⟨x,hx⟩:∃x,G[hi]? =ζ x:=⟨_,θ (by have:=Hl.out;omega)⟩
    obtain⟨b,off,rfl,bD,bM⟩:=H.out.place bF (by decide) (by omega);have cR:=HB.out;have yi:=IY hi x hx;have uX:=CC x x1 x2;have hp:=bM hi x hx;obtain⟨ov,uh⟩:=ay (dF x.1 (x1,x2));rw[uh] at yi uX;obtain⟨⟨i1,i2⟩,lb,at_⟩:=x;have q0:=hp 0 _ rfl;have q1:=hp 1 _ rfl;have q2:=hp 2 _ rfl;have q3:=hp 3 _ rfl;simp only[Ν,Jac] at q0 q1 q2 q3;have l0:=(cR.cell (p:=⟨b,off+hi*4,ε⟩) bD).trans q0;have l1:=(cR.cell (p:=⟨b,off+hi*4+1,ε⟩) bD).trans q1;have l2:=(cR.cell (p:=⟨b,off+hi*4+2,ε⟩) bD).trans q2;have l3:=(cR.cell (p:=⟨b,off+hi*4+3,ε⟩) bD).trans q3;have HC:Hid (∀w',Ζ η 146 #[φ #[J i1,J i2,μ lb,J at_],φ #[J x1,J x2]] w' fun e cT=>e=.returned (J ov)∧σ w'.heap.size w' cT):=qh uX;have As:Hid (ov=cf hi):=qh yi;clear hx bM hp bD cR q0 q1 q2 q3 yi uh uX;obtain⟨bq,KK⟩:=ay ((ov==0))
    have kC:(decide (hi<n) && decide (cf hi=0))=bq:=by
     rw[decide_eq_true vN,←As.out,←KK,Bool.true_and,Bool.eq_iff_iff,decide_eq_true_iff,beq_iff_eq]
    have xK:=qh kC;clear kC;go_upto_region 8 with fail
    have fv:=bW l0;have ld1:=bW l1;have kO:=bW l2;have pt:=bW l3;have qC:=dm (i:=0) HX.out rfl;have qw:=dm (i:=1) HX.out rfl;clear l0 l1 l2 l3;refine aw (aF) (by kernel_rfl) ?_;refine ag 0 ?_;refine ag 1 ?_;refine ag 2 ?_;refine ag 3 ?_;refine ag 4 ?_;refine ag 5 ?_;refine ag 6 ?_;refine ag 7 ?_;refine ag 8 ?_;refine ag 9 ?_;refine ag 10 ?_;refine bY 11 (hy:=by apply ck;rfl;rotate_left;intro w' aB;exact HC.out w';intro w';go_simp) (h:=?_);refine ag 12 ?_;refine ag 13 ?_;refine ag 14 ?_;refine ag 15 ?_;refine aD (by kernel_rfl) ?_ _;intro W3 fu;have cI:=qh (af (aL HB.out) fu);clear fu HB HX fv ld1 kO pt qC qw HC;go_wp2;refine JaN (v:=Ξ #[J (hi:Int),Β bq]) (by simp[results,Tryz.results145,go_sem]) rfl ?_;exact⟨hi,lh,HI.out.1,HI.out.2,by rw[xK.out],cI.out⟩
   ·have e2:¬(hi:Int)<(n:Int):=by omega
    have e3:¬(hi:Int)<(hi:Int):=by omega
    have kC:(decide (hi<n) && decide (cf hi=0))=ρ:=by rw[decide_eq_false vN];rfl
    have xK:=qh kC;clear kC;go_upto_region 8 with fail
    refine aw (aF) (by kernel_rfl) ?_;refine ag 0 ?_;refine ag 1 ?_;refine ag 2 ?_;refine ag 3 ?_;refine ag 4 ?_;refine bg 5 ?_;refine bg 6 ?_;refine bg 7 ?_;refine bg 8 ?_;refine bg 9 ?_;refine bg 10 ?_;refine bg 11 ?_;refine bg 12 ?_;refine ag 13 ?_;refine ag 14 ?_;refine ag 15 ?_;refine aD (by kernel_rfl) ?_ _;intro W3 fu;have cI:=qh (af (aL HB.out) fu);clear fu HB HX;go_wp2;refine JaN (v:=Ξ #[J (hi:Int),Β ρ]) (by simp[results,Tryz.results145,go_sem]) rfl ?_;exact⟨hi,lh,HI.out.1,HI.out.2,by rw[xK.out],cI.out⟩
end Go.Proofs.YtpdpbfmiahjiiaaGreat
