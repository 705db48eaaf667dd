/- Several texts in one. -/
import Derived.Test.YtpdpbfmiahjiiaaGreatPlAB
import Derived.Test.YtpdpbfmiahjiiaaGreatPlAC
import Derived.Test.YtpdpbfmiahjiiaaGreatPlAD
set_option linter.unusedSectionVars false
set_option linter.unusedSimpArgs false
set_option linter.unusedVariables false
set_option maxRecDepth 100000
set_option maxHeartbeats 16000000
namespace Go.Proofs.YtpdpbfmiahjiiaaGreat
open Go.RowKit
open _root_.Go.Value renaming slice→γ,string→μ,pointer→υ,agg→φ,bool→Β,slice→Ο,agg→JbL
open _root_.Go.Obj renaming cells→δ
open _root_.Option renaming none→ε,some→ζ,some→Jae
open _root_.Go.Proofs.Tryz renaming prog→η
open _root_.List renaming getElem?_eq_getElem→θ,map_cons→ι,getElem?_eq_some_iff→ν,length_append→Ε,mem_cons→Η,take_of_length_le→Ι,getElem?_append_left→Jab,drop_of_length_le→Jak,append_assoc→Jay,length_drop→Jaz,length_take→JaA,mem_filter→JaC,nil_append→JaF,drop_append→JaR,getElem?_drop→JaS,not_mem_nil→Jbh,append_nil→Jbi,take_append→Jbt,getElem_of_mem→Jbv,flatMap_cons→Jby,mem_of_mem_drop→JbC,take_zero→JbQ
open _root_.Go.Act renaming put→ξ
open _root_.Go renaming World→ο,Calls→Ζ,Addr→Κ,maxLen→Jap
open _root_.Bool renaming false→ρ,true→τ
open _root_.Go.RowKit renaming Below→σ
open _root_.Go.RowKit.Below renaming refl→Θ
open _root_.Nat renaming le_trans→Λ,add_zero→Jac,zero_le→Jas,zero_add→JaI,lt_or_ge→JaM,sub_self→JaP,min_def→JbR
open _root_.Option.some renaming inj→Μ
open _root_.Go.Addr renaming add_lit→Ν
open _root_.Go.IntKind renaming i64→Jaw,wrap_i64→JaT
open _root_.Go.Builtin renaming zeroCells→JaO,copy_→Jbr
open _root_.Prod.mk renaming injEq→Jba
open _root_.Go.Departure renaming mixedOrders→JbG
theorem xW {α:Type} {k:α→Nm} (v:α):∀l:List α,(fp k l v).Perm (v::l)
 |[]=>List.Perm.refl _
 |u::l=>by
  rw[fp];split
  ·exact List.Perm.refl _
  ·exact((xW v l).cons u).trans (List.Perm.swap v u l)
theorem vq.new {V:List VS} (h:vq V) {x:Nm} {l:List D} {t:ByteArray × Int} (hx:bH V x=ρ) (hl:l.Nodup) (ht:aJ l=l) (hd:∀d∈l,cF V d=ρ):
 vq (fQ V (x,l,t))∧∀d,cF (fQ V (x,l,t)) d=τ↔d∈l∨cF V d=τ:=by
 have hp:=xW (k:=fun v:VS=>v.1) (x,l,t) V
 refine⟨⟨?_,?_,fun v hv=>?_⟩,fun d=>?_⟩
 ·unfold fQ;rw[(hp.map (·.1)).nodup_iff,ι,List.nodup_cons]
  refine⟨fun q=>?_,h.keys⟩
  obtain⟨v,hv,e⟩:=List.mem_map.1 q;exact pt.1 hx v hv e
 ·unfold fQ;rw[(hp.flatMap_right _).nodup_iff,Jby,List.nodup_append]
  refine⟨hl,h.once,fun a ha b hb e=>?_⟩
  obtain⟨v,hv,Ru⟩:=List.mem_flatMap.1 hb;exact rV (hd a ha) hv (e▸Ru)
 ·rcases dL.1 hv with rfl|hv
  ·exact ht
  ·exact h.turned v hv
 ·rw[cU,cU];constructor
  ·rintro⟨v,hv,hd⟩;rcases dL.1 hv with rfl|hv
   ·exact .inl hd
   ·exact .inr ⟨v,hv,hd⟩
  ·rintro (hd|⟨v,hv,hd⟩)
   ·exact⟨_,dL.2 (.inl rfl),hd⟩
   ·exact⟨v,dL.2 (.inr hv),hd⟩
theorem vF {α β:Type} {f:α→List β} {p:α→Bool}:∀l:List α,((l.filter p).flatMap f).Sublist (l.flatMap f)
 |[]=>List.Sublist.refl _
 |a::l=>by
  rw[Jby]
  by_cases h:p a=τ
  ·rw[List.filter_cons_of_pos h,Jby];exact(List.Sublist.refl _).append (vF l)
  ·rw[List.filter_cons_of_neg h];exact(vF l).trans (List.sublist_append_right _ _)
theorem vq.cut {V:List VS} (h:vq V) {u:VS} (hu:u∈V):vq (cK V u.1)∧∀d,cF (cK V u.1) d=τ↔¬d∈u.2.1∧cF V d=τ:=by
 have hs:(cK V u.1).Sublist V:=List.filter_sublist
 refine⟨⟨(hs.map _).nodup h.keys,(vF _).nodup h.once,fun v hv=>h.turned v (hs.subset hv)⟩,fun d=>?_⟩
 rw[cU,cU];constructor
 ·rintro⟨v,hv,hd⟩;obtain⟨h1,h2⟩:=JaC.1 hv;exact⟨fun q=>of_decide_eq_true h2 (by rw[eE h.once h1 hu hd q]),v,h1,hd⟩
 ·rintro⟨hn,v,hv,hd⟩
  refine⟨v,JaC.2 ⟨hv,decide_eq_true (fun e=>hn ?_)⟩,hd⟩
  rw[←kL h.keys hv hu e];exact hd
theorem JZ {x y:Nm} (h:¬x=y) (s t:Int):¬bg x s=bg y t:=fun e=>h (congrArg cN e)
theorem vU {x:Nm} {s t:Int} (h:¬s=t):¬bg x s=bg x t:=fun e=>h (congrArg (fun d:D=>d.2.2) e)
theorem xM {a b:D} (h:¬a=b):[a,b].Nodup:=by simp[h]
theorem Lu {a b:D} (h:¬a=b):aJ (aJ [a,b])=aJ [a,b]:=mw (xM h)
theorem EG {V:List VS} {v:VS} (h:sv (fun v:VS=>v.1) V) (hx:bH V v.1=ρ):sv (fun v:VS=>v.1) (fQ V v):=vT h (pt.1 hx)
theorem Bg {E:List EC} {e:EC} (h:sv (fun e:EC=>e.1) E) (hx:cx E e.1=ρ):sv (fun e:EC=>e.1) (iZ E e):=vT h (pt.1 hx)
theorem eK.addV {S:SS} (h:eK S) {x:Nm} {t:ByteArray × Int} (hx:bH S.1 x=ρ):eK (fQ S.1 (x,[],t),S.2):=by
 obtain⟨r,m⟩:=h.rg.new (l:=[]) (t:=t) hx List.nodup_nil rfl (fun d hd=>(by cases hd));have m':∀d,cF (fQ S.1 (x,[],t)) d=τ↔cF S.1 d=τ:=fun d=>by rw[m d];simp
 exact eK.mk_ (E:=S.2.1) (G:=S.2.2) (EG h.vup hx) h.eup r (fun d hd=>h.std ((m' d).1 hd)) (fun y hy=>⟨(m' _).2 (h.end_ hy).1,(m' _).2 (h.end_ hy).2⟩)
theorem eK.remV {S:SS} (h:eK S) {u:VS} (hu:u∈S.1) (hr:u.2.1=[]):eK (cK S.1 u.1,S.2):=by
 obtain⟨r,m⟩:=h.rg.cut hu;have m':∀d,cF (cK S.1 u.1) d=τ↔cF S.1 d=τ:=fun d=>by rw[m d,hr];simp
 exact eK.mk_ (E:=S.2.1) (G:=S.2.2) (qY h.vup) h.eup r (fun d hd=>h.std ((m' d).1 hd)) (fun y hy=>⟨(m' _).2 (h.end_ hy).1,(m' _).2 (h.end_ hy).2⟩)
theorem eK.link {S:SS} (h:eK S) {x:Nm} {a b:Nm × D} {t:ByteArray × Int} (hx:cx S.2.1 x=ρ) (ha:bH S.1 a.1=τ) (hb:bH S.1 b.1=τ) (G:List Gn):
 eK (dw (dw S.1 a (bg x 0)) b (bg x 1),iZ S.2.1 (x,t),G):=by
 have h0:=h.no_ (d:=bg x 0) hx;have h1:=h.no_ (d:=bg x 1) hx;obtain⟨r1,m1⟩:=h.rg.ins ha h0
 have h1':cF (dw S.1 a (bg x 0)) (bg x 1)=ρ:=by
  cases hq:cF (dw S.1 a (bg x 0)) (bg x 1) with
  |false=>rfl
  |true=>
   rcases (m1 _).1 hq with e|e
   ·exact absurd e (vU (by decide))
   ·rw[h1] at e;cases e
 obtain⟨r2,m2⟩:=r1.ins (c:=b) (by rw[mF (qz _ _ _)];exact hb) h1';refine eK.mk_ (om h.vup (by rw[qz,qz])) (Bg h.eup hx) r2 (fun d hd=>?_) (fun y hy=>?_)
 ·rcases (m2 d).1 hd with rfl|hd
  ·exact⟨jV.2 (.inl rfl),.inr rfl⟩
  ·rcases (m1 d).1 hd with rfl|hd
   ·exact⟨jV.2 (.inl rfl),.inl rfl⟩
   ·exact⟨jV.2 (.inr (h.std hd).1),(h.std hd).2⟩
 ·rcases jV.1 hy with rfl|hy
  ·exact⟨(m2 _).2 (.inr ((m1 _).2 (.inl rfl))),(m2 _).2 (.inl rfl)⟩
  ·exact⟨(m2 _).2 (.inr ((m1 _).2 (.inr (h.end_ hy).1))),(m2 _).2 (.inr ((m1 _).2 (.inr (h.end_ hy).2)))⟩
theorem eK.split {S:SS} (h:eK S) {x nw ot:Nm} {s t:Int} {p q:ByteArray × Int} (hx:cx S.2.1 x=τ) (hn:bH S.1 nw=ρ) (ho:cx S.2.1 ot=ρ) (hs:s=0∨s=1) (ht:t=0∨t=1) (G:List Gn):
 eK (fQ (dP S.1 (bg x s) (bg ot (1 - t))) (nw,aJ [bg x s,bg ot t],p),iZ S.2.1 (ot,q),G):=by
 have bQ:¬x=ot:=fun e=>by rw[e,ho] at hx;cases hx
 have hm:cF S.1 (bg x s)=τ:=by rcases hs with rfl|rfl;exact(h.end_ hx).1;exact(h.end_ hx).2
 have hk:∀r,cF S.1 (bg ot r)=ρ:=fun r=>h.no_ (d:=bg ot r) ho
 obtain⟨r1,m1⟩:=h.rg.swp hm (hk (1 - t))
 have h1:cF (dP S.1 (bg x s) (bg ot (1 - t))) (bg x s)=ρ:=by
  cases hq:cF (dP S.1 (bg x s) (bg ot (1 - t))) (bg x s) with
  |false=>rfl
  |true=>
   rcases (m1 _).1 hq with e|e
   ·exact absurd e (JZ bQ _ _)
   ·exact absurd rfl e.1
 have h2:cF (dP S.1 (bg x s) (bg ot (1 - t))) (bg ot t)=ρ:=by
  cases hq:cF (dP S.1 (bg x s) (bg ot (1 - t))) (bg ot t) with
  |false=>rfl
  |true=>
   rcases (m1 _).1 hq with e|e
   ·exact absurd e (vU (by omega))
   ·rw[hk] at e;exact absurd e.2 (by decide)
 have hmk:¬bg x s=bg ot t:=JZ bQ _ _
 obtain⟨r2,m2⟩:=r1.new (x:=nw) (l:=aJ [bg x s,bg ot t]) (t:=p) (by rw[mF (mM _ _ _)];exact hn) (kJ (xM hmk)) (Lu hmk) (fun d hd=>by
  have hd:=e7.1 hd;simp only[Η,Jbh,or_false] at hd;rcases hd with rfl|rfl
  ·exact h1
  ·exact h2)
 have m:∀d,cF (fQ (dP S.1 (bg x s) (bg ot (1 - t))) (nw,aJ [bg x s,bg ot t],p)) d=τ↔d=bg ot t∨d=bg ot (1 - t)∨cF S.1 d=τ:=fun d=>by
  rw[m2,e7,m1];simp only[Η,Jbh,or_false];constructor
  ·rintro ((e|e)|e|⟨-,e⟩)
   ·exact .inr (.inr (e▸hm))
   ·exact .inl e
   ·exact .inr (.inl e)
   ·exact .inr (.inr e)
  ·rintro (e|e|e)
   ·exact .inl (.inr e)
   ·exact .inr (.inl e)
   ·by_cases e2:d=bg x s
    ·exact .inl (.inl e2)
    ·exact .inr (.inr ⟨e2,e⟩)
 refine eK.mk_ (EG (om h.vup (mM _ _ _)) (by rw[mF (mM _ _ _)];exact hn)) (Bg h.eup ho) r2 (fun d hd=>?_) (fun y hy=>?_)
 ·rcases (m d).1 hd with rfl|rfl|hd
  ·exact⟨jV.2 (.inl rfl),ht⟩
  ·exact⟨jV.2 (.inl rfl),by show 1 - t=0∨1 - t=1;omega⟩
  ·exact⟨jV.2 (.inr (h.std hd).1),(h.std hd).2⟩
 ·rcases jV.1 hy with e9|hy
  ·have e9:y=ot:=e9;rw[e9]
   have e:∀r:Int,r=0∨r=1→cF (fQ (dP S.1 (bg x s) (bg ot (1 - t))) (nw,aJ [bg x s,bg ot t],p)) (bg ot r)=τ:=fun r hr=>(m _).2 (by
    by_cases e:r=t
    ·exact .inl (by rw[e])
    ·exact .inr (.inl (by rw[show r=1 - t by omega])))
   exact⟨e 0 (.inl rfl),e 1 (.inr rfl)⟩
  ·exact⟨(m _).2 (.inr (.inr (h.end_ hy).1)),(m _).2 (.inr (.inr (h.end_ hy).2))⟩
theorem FV {l:List D} {ot:Nm} {a b:D} (h:pV l ot=ζ (a,b)):(l=[a,b]∨l=[b,a])∧¬cN a=cN b∧cN b=ot:=by
 unfold pV at h;split at h
 ·rename_i p q;split at h
  ·cases h
  ·rename_i bQ;split at h
   ·rename_i e;simp only[Jae.injEq,Jba] at h;obtain⟨rfl,rfl⟩:=h;exact⟨.inr rfl,fun q=>bQ q.symm,e⟩
   ·split at h
    ·rename_i e;simp only[Jae.injEq,Jba] at h;obtain⟨rfl,rfl⟩:=h;exact⟨.inl rfl,bQ,e⟩
    ·cases h
 ·cases h
theorem eK.smooth {S:SS} (h:eK S) {u:VS} (hu:u∈S.1) {ot:Nm} {a b:D} (hm:pV u.2.1 ot=ζ (a,b)) (G:List Gn):
 eK (dP (cK S.1 u.1) (b.1,b.2.1,1 - b.2.2) a,eI S.2.1 ot,G):=by
 obtain⟨hl,bQ,hb⟩:=FV hm;have ij:∀d,d∈u.2.1↔d=a∨d=b:=fun d=>by rcases hl with e|e<;>rw[e]<;>simp[or_comm]
 have sa:cF S.1 a=τ:=cU.2 ⟨u,hu,(ij a).2 (.inl rfl)⟩;have sb:cF S.1 b=τ:=cU.2 ⟨u,hu,(ij b).2 (.inr rfl)⟩;obtain⟨kb,tb⟩:=h.std sb;rw[hb] at kb;have ef:((b.1,b.2.1,1 - b.2.2):D)=bg ot (1 - b.2.2):=by rw[←hb];rfl
 have eb:b=bg ot b.2.2:=ki hb rfl;have hao:¬cN a=ot:=fun e=>bQ (e.trans hb.symm)
 rw[ef];obtain⟨r1,m1⟩:=h.rg.cut hu;have Y7:¬bg ot (1 - b.2.2)=a:=fun e=>hao (by rw[←e];rfl)
 have hfb:¬bg ot (1 - b.2.2)=b:=fun e=>by
  have:(1:Int) - b.2.2=b.2.2:=congrArg (fun d:D=>d.2.2) e
  omega
 have sf:cF S.1 (bg ot (1 - b.2.2))=τ:=by
  rcases tb with e|e<;>rw[e]
  ·exact(h.end_ kb).2
  ·exact(h.end_ kb).1
 have c1:cF (cK S.1 u.1) (bg ot (1 - b.2.2))=τ:=(m1 _).2 ⟨fun q=>by rcases (ij _).1 q with e|e;exact Y7 e;exact hfb e,sf⟩
 have c2:cF (cK S.1 u.1) a=ρ:=by
  cases hq:cF (cK S.1 u.1) a with
  |false=>rfl
  |true=>exact absurd ((ij a).2 (.inl rfl)) ((m1 _).1 hq).1
 obtain⟨r2,m2⟩:=r1.swp c1 c2
 have m:∀d,cF (dP (cK S.1 u.1) (bg ot (1 - b.2.2)) a) d=τ↔cF S.1 d=τ∧¬cN d=ot:=fun d=>by
  rw[m2,m1,ij];constructor
  ·rintro (e|⟨e1,e2,e3⟩)
   ·rw[e];exact⟨sa,hao⟩
   ·refine⟨e3,fun q=>?_⟩
    have hs:=(h.std e3).2
    by_cases q2:d.2.2=b.2.2
    ·exact e2 (.inr (by rw[eb];exact ki q q2))
    ·exact e1 (ki q (by omega))
  ·rintro⟨e1,e2⟩
   by_cases e:d=a
   ·exact .inl e
   ·exact .inr ⟨fun q=>e2 (by rw[q];rfl),fun q=>by rcases q with q|q;exact e q;exact e2 (by rw[q];exact hb),e1⟩
 refine eK.mk_ (om (qY h.vup) (mM _ _ _)) (qY h.eup) r2 (fun d hd=>?_) (fun y hy=>?_)
 ·obtain⟨e1,e2⟩:=(m d).1 hd;exact⟨sh.2 ⟨e2,(h.std e1).1⟩,(h.std e1).2⟩
 ·obtain⟨e1,e2⟩:=sh.1 hy;exact⟨(m _).2 ⟨(h.end_ e2).1,e1⟩,(m _).2 ⟨(h.end_ e2).2,e1⟩⟩
section
variable {α:Type} {k:α→Nm}
def oD (k:α→Nm) (l:List α) (x:Nm):Int:=if nL k l x=τ then(l.findIdx (fun v=>decide (k v=x)):Int) else -1
theorem rp {l:List α} {x:Nm} (h:nL k l x=ρ):oD k l x= -1:=by unfold oD;rw[h];rfl
theorem uB {l:List α} {x:Nm} (h:nL k l x=τ):∃(i:Nat) (v:α),oD k l x=(i:Int)∧l[i]? =ζ v∧k v=x∧i<l.length:=by
 obtain⟨v,hv,e⟩:=cT.1 h;have hi:l.findIdx (fun v=>decide (k v=x))<l.length:=List.findIdx_lt_length_of_exists ⟨v,hv,decide_eq_true e⟩
 refine⟨_,l[l.findIdx (fun v=>decide (k v=x))],by unfold oD;rw[if_pos h],θ hi,?_,hi⟩
 exact of_decide_eq_true (List.findIdx_getElem (w:=hi))
theorem Fq {l:List α} {x:Nm} {i:Nat} {v:α} (hv:l[i]? =ζ v) (e:k v=x) (hn:∀t u,l[t]? =ζ u→t<i→¬k u=x):oD k l x=(i:Int):=by
 have h:nL k l x=τ:=cT.2 ⟨v,List.mem_of_getElem? hv,e⟩;obtain⟨hi,Ti⟩:=ν.1 hv;unfold oD;rw[if_pos h,(List.findIdx_eq hi).2 ⟨by rw[Ti];exact decide_eq_true e,fun j hj=>decide_eq_false (hn j _ (θ (by omega)) hj)⟩]
end
theorem qS {S:SS} (h:eK S) {x:Nm} (hx:cx S.2.1 x=τ):rings (rings S.1 (fun l=>aJ (ft l (bg x 0)))) (fun l=>aJ (ft l (bg x 1)))=dK (dK S.1 (bg x 0)) (bg x 1):=by
 obtain⟨h0,h1⟩:=h.end_ hx;rw[nk h.rg.keys h.rg.once h.rg.turned h0];obtain⟨r1,m1⟩:=h.rg.rem h0;exact nk r1.keys r1.once r1.turned ((m1 _).2 ⟨vU (by decide),h1⟩)
theorem Ag (Vs:List VC) (x:D):jl Vs x=(uq (Vs.map vS) x,cF (Vs.map vS) x):=by
 induction Vs with
 |nil=>rfl
 |cons v Vs ih=>
  by_cases h:x∈v.2.1.2.2.2
  ·have e1:jl (v::Vs) x=(v.1,τ):=by unfold jl;rw[List.find?_cons_of_pos (by exact decide_eq_true h)]
   have e2:uq ((v::Vs).map vS) x=v.1:=by unfold uq;rw[ι,List.find?_cons_of_pos (by exact decide_eq_true h)];rfl
   have e3:cF ((v::Vs).map vS) x=τ:=cU.2 ⟨vS v,by simp,h⟩;rw[e1,e2,e3]
  ·have e1:jl (v::Vs) x=jl Vs x:=by unfold jl;rw[List.find?_cons_of_neg (by simpa using h)]
   have e2:uq ((v::Vs).map vS) x=uq (Vs.map vS) x:=by unfold uq;rw[ι,List.find?_cons_of_neg (by show ¬decide (x∈v.2.1.2.2.2)=τ;simpa using h)]
   have e3:cF ((v::Vs).map vS) x=cF (Vs.map vS) x:=by
    unfold cF;rw[ι,List.any_cons]
    show(decide (x∈v.2.1.2.2.2)||_)=_
    rw[decide_eq_false h];rfl
   rw[e1,e2,e3,ih]
theorem TO (Vs:List VC):EM Vs=cF (Vs.map vS):=funext (fun x=>by unfold EM;rw[Ag])
theorem dh (Vs:List VC) (x:Nm):(aU Vs x).2=bH (Vs.map vS) x∧(aU Vs x).1.2.1.2.2.2=ck (Vs.map vS) x:=by
 induction Vs with
 |nil=>exact⟨rfl,rfl⟩
 |cons v Vs ih=>
  by_cases h:v.1=x
  ·have e1:aU (v::Vs) x=(v,τ):=rS _ _ _ _ _ h;have e2:ck ((v::Vs).map vS) x=v.2.1.2.2.2:=by unfold ck;rw[ι,List.find?_cons_of_pos (by exact decide_eq_true h)];rfl
   have e3:bH ((v::Vs).map vS) x=τ:=cT.2 ⟨vS v,by simp,h⟩;rw[e1,e2,e3];exact⟨rfl,rfl⟩
  ·have e1:aU (v::Vs) x=aU Vs x:=wb _ _ _ _ _ h;have e2:ck ((v::Vs).map vS) x=ck (Vs.map vS) x:=by unfold ck;rw[ι,List.find?_cons_of_neg (by show ¬decide (v.1=x)=τ;simpa using h)]
   have e3:bH ((v::Vs).map vS) x=bH (Vs.map vS) x:=by
    unfold bH nL;rw[ι,List.any_cons]
    show(decide (v.1=x)||_)=_
    rw[decide_eq_false h];rfl
   rw[e1,e2,e3];exact ih
theorem kx (Vs:List VC):(Vs.map vS).map (·.1)=Vs.map (·.1):=by rw[List.map_map];rfl
theorem Og (Vs:List VC):(Vs.map vS).flatMap (fun v=>v.2.1)=Vs.flatMap (fun v=>v.2.1.2.2.2):=by rw[List.flatMap_map];rfl
theorem Ly (bx:Nat) (x1 x2:Int) (v:VC) (w:ο) (h:Whole w bx 30 [J x1,J x2]):Ζ η 134 #[φ (vC v).toArray,υ (ζ ⟨bx,0,ε⟩)] w fun e w'=>e=.returned (Β (decide (v.1=(x1,x2))))∧σ w.heap.size w w':=by
 obtain⟨⟨i1,i2⟩,⟨rA,rn,rc,rL⟩,lb,at_⟩:=v;show Ζ η 134 #[φ #[J i1,J i2,γ rA rn rc,μ lb,J at_],υ (ζ ⟨bx,0,ε⟩)] w fun e w'=>e=.returned (Β (decide ((i1,i2)=(x1,x2))))∧σ w.heap.size w w'
 have hx:=h.al (δ #[J i1,J i2,γ rA rn rc,μ lb,J at_] 59);have c0:=hx.cell (i:=0) rfl;have c1:=hx.cell (i:=1) rfl;have hB:=qh (ax w (δ #[J i1,J i2,γ rA rn rc,μ lb,J at_] 59));clear h hx
 by_cases h1:i1=x1
 ·subst h1
  by_cases h2:i2=x2
  ·subst h2;go_enter Tryz.func134,Tryz.ntmps134;go_wp2;go_ret;exact⟨by simp,hB.out⟩
  ·go_enter Tryz.func134,Tryz.ntmps134;go_wp2;go_ret;exact⟨by simp[h2],hB.out⟩
 ·go_enter Tryz.func134,Tryz.ntmps134;go_wp2;go_ret;exact⟨by simp[h1],hB.out⟩
theorem GQ (A:Option Κ) (n c bx:Nat) (x1 x2:Int) (Vs:List VC) (w:ο) (h:aS w w.heap.size 5 A n c (ao vC Vs)) (hx:Whole w bx 30 [J x1,J x2]) (hn:n≤1000000):
 Ζ η 133 #[γ A n c,.func (.func 134) #[] #[υ (ζ ⟨bx,0,ε⟩)]] w fun e w'=>e=.returned (J (oD (fun v:VC=>v.1) Vs (x1,x2)))∧σ w.heap.size w w':=by
 have H:=qh h;have HX:=qh hx;have Hl:=qh (h.rlen aN (by decide));have he:Sv 134:=uQ Tryz.func134 (by kernel_rfl) rfl;clear h hx;go_enter Tryz.func133,Tryz.ntmps133;go_wp2;go_loopw [8] (fun i wr=>∃k:Nat,k≤n∧i=J (k:Int)∧Hid (∀t u,Vs[t]? =ζ u→t<k→¬u.1=(x1,x2))∧Hid (σ w.heap.size w wr)) (fun i _=>n - (intOf i).toNat)
 case atStart=>exact⟨0,Jas _,rfl,qh (fun t u _ h=>absurd h (Nat.not_lt_zero t)),qh (Θ _ _)⟩
 case round=>
  obtain⟨k,hk,rfl,HN,HB⟩:=hrel;obtain⟨wo,dB⟩:=az wr;rw[dB] at HB ⊢;clear dB
  by_cases eS:k<n
  ·obtain⟨v,hv⟩:∃v,Vs[k]? =ζ v:=⟨_,θ (by have:=Hl.out;omega)⟩
   have hR:=H.out.bl HB.out;obtain⟨b,off,rfl,bZ,bD⟩:=hR.place aN (by decide) (by omega);have hp:=bD k v hv;have HV:=qh hv;have N5:(k:Int)<(n:Int):=by omega
   have HC:=qh (Ly bx x1 x2 v wo (HX.out.bl HB.out))
   have Zr:Hid (¬v.1=(x1,x2)→∀t u,Vs[t]? =ζ u→t<k+1→¬u.1=(x1,x2)):=qh (fun bQ t u ht eS=>by
    rcases JaM t k with h1|h1
    ·exact HN.out t u ht h1
    ·obtain rfl:t=k:=by omega
     rw[HV.out] at ht;obtain rfl:=Μ ht;exact bQ)
   have Hy1:Hid (v.1=(x1,x2)→oD (fun v:VC=>v.1) Vs (x1,x2)=(k:Int)):=qh (fun e=>Fq HV.out e (fun t u ht eS=>HN.out t u ht eS));obtain⟨dd,Q7⟩:=az (decide (v.1=(x1,x2)));rw[Q7] at HC;have Hd:=qh Q7;clear Q7 hv bD bZ hR;obtain⟨⟨i1,i2⟩,⟨rA,rn,rc,rL⟩,lb,at_⟩:=v;have HC:Hid (Ζ η 134 #[φ #[J i1,J i2,γ rA rn rc,μ lb,J at_],υ (ζ ⟨bx,0,ε⟩)] wo fun e w'=>e=.returned (Β dd)∧σ wo.heap.size wo w'):=HC;have l0:=hp 0 _ rfl;have l1:=hp 1 _ rfl;have l2:=hp 2 _ rfl;have l3:=hp 3 _ rfl;have l4:=hp 4 _ rfl;simp only[Ν,Jac] at l0 l1 l2 l3 l4;clear hp;cases dd with
   |true=>
    have Hy:=qh (Hy1.out (of_decide_eq_true Hd.out))
    go_wp2_with (first
     |(go_at_call 134
       refine HC.out.mono ?_;rintro e w3 ⟨rfl,bw⟩;have cY:=qh (af HB.out bw);clear bw))
    go_ret;rw[Hy.out];exact⟨rfl,cY.out⟩
   |false=>
    have Hn:=qh (Zr.out (of_decide_eq_false Hd.out))
    go_wp2_with (first
     |(go_at_call 134
       refine HC.out.mono ?_;rintro e w3 ⟨rfl,bw⟩;have cY:=qh (af HB.out bw);clear bw))
    go_roundw
    case rel=>exact⟨k+1,by omega,by go_num,Hn,cY⟩
    case measure=>simp[intOf];omega
  ·obtain rfl:k=n:=by omega
   have YJ:¬(k:Int)<(k:Int):=by omega
   have YS:Hid (oD (fun v:VC=>v.1) Vs (x1,x2)= -1):=qh (rp (pt.2 (fun u hu=>by
    obtain⟨t,ht,e⟩:=Jbv hu;exact HN.out t u (by rw[θ ht,e]) (by have:=Hl.out;omega))))
   go_wp2;go_ret;rw[YS.out];exact⟨rfl,HB.out⟩
theorem IH (bx:Nat) (x1 x2:Int) (v:EC) (w:ο) (h:Whole w bx 30 [J x1,J x2]):Ζ η 141 #[φ (eC v).toArray,υ (ζ ⟨bx,0,ε⟩)] w fun e w'=>e=.returned (Β (decide (v.1=(x1,x2))))∧σ w.heap.size w w':=by
 obtain⟨⟨i1,i2⟩,lb,at_⟩:=v;show Ζ η 141 #[φ #[J i1,J i2,μ lb,J at_],υ (ζ ⟨bx,0,ε⟩)] w fun e w'=>e=.returned (Β (decide ((i1,i2)=(x1,x2))))∧σ w.heap.size w w'
 have hx:=h.al (δ #[J i1,J i2,μ lb,J at_] 67);have c0:=hx.cell (i:=0) rfl;have c1:=hx.cell (i:=1) rfl;have hB:=qh (ax w (δ #[J i1,J i2,μ lb,J at_] 67));clear h hx
 by_cases h1:i1=x1
 ·subst h1
  by_cases h2:i2=x2
  ·subst h2;go_enter Tryz.func141,Tryz.ntmps141;go_wp2;go_ret;exact⟨by simp,hB.out⟩
  ·go_enter Tryz.func141,Tryz.ntmps141;go_wp2;go_ret;exact⟨by simp[h2],hB.out⟩
 ·go_enter Tryz.func141,Tryz.ntmps141;go_wp2;go_ret;exact⟨by simp[h1],hB.out⟩
theorem Gx (A:Option Κ) (n c bx:Nat) (x1 x2:Int) (Vs:List EC) (w:ο) (h:aS w w.heap.size 4 A n c (ao eC Vs)) (hx:Whole w bx 30 [J x1,J x2]) (hn:n≤1000000):
 Ζ η 140 #[γ A n c,.func (.func 141) #[] #[υ (ζ ⟨bx,0,ε⟩)]] w fun e w'=>e=.returned (J (oD (fun v:EC=>v.1) Vs (x1,x2)))∧σ w.heap.size w w':=by
 have H:=qh h;have HX:=qh hx;have Hl:=qh (h.rlen cM (by decide));have he:Sv 141:=uQ Tryz.func141 (by kernel_rfl) rfl;clear h hx;go_enter Tryz.func140,Tryz.ntmps140;go_wp2;go_loopw [8] (fun i wr=>∃k:Nat,k≤n∧i=J (k:Int)∧Hid (∀t u,Vs[t]? =ζ u→t<k→¬u.1=(x1,x2))∧Hid (σ w.heap.size w wr)) (fun i _=>n - (intOf i).toNat)
 case atStart=>exact⟨0,Jas _,rfl,qh (fun t u _ h=>absurd h (Nat.not_lt_zero t)),qh (Θ _ _)⟩
 case round=>
  obtain⟨k,hk,rfl,HN,HB⟩:=hrel;obtain⟨wo,dB⟩:=az wr;rw[dB] at HB ⊢;clear dB
  by_cases eS:k<n
  ·obtain⟨v,hv⟩:∃v,Vs[k]? =ζ v:=⟨_,θ (by have:=Hl.out;omega)⟩
   have hR:=H.out.bl HB.out;obtain⟨b,off,rfl,bZ,bD⟩:=hR.place cM (by decide) (by omega);have hp:=bD k v hv;have HV:=qh hv;have N5:(k:Int)<(n:Int):=by omega
   have HC:=qh (IH bx x1 x2 v wo (HX.out.bl HB.out))
   have Zr:Hid (¬v.1=(x1,x2)→∀t u,Vs[t]? =ζ u→t<k+1→¬u.1=(x1,x2)):=qh (fun bQ t u ht eS=>by
    rcases JaM t k with h1|h1
    ·exact HN.out t u ht h1
    ·obtain rfl:t=k:=by omega
     rw[HV.out] at ht;obtain rfl:=Μ ht;exact bQ)
   have Hy1:Hid (v.1=(x1,x2)→oD (fun v:EC=>v.1) Vs (x1,x2)=(k:Int)):=qh (fun e=>Fq HV.out e (fun t u ht eS=>HN.out t u ht eS));obtain⟨dd,Q7⟩:=az (decide (v.1=(x1,x2)));rw[Q7] at HC;have Hd:=qh Q7;clear Q7 hv bD bZ hR;obtain⟨⟨i1,i2⟩,lb,at_⟩:=v;have HC:Hid (Ζ η 141 #[φ #[J i1,J i2,μ lb,J at_],υ (ζ ⟨bx,0,ε⟩)] wo fun e w'=>e=.returned (Β dd)∧σ wo.heap.size wo w'):=HC;have l0:=hp 0 _ rfl;have l1:=hp 1 _ rfl;have l2:=hp 2 _ rfl;have l3:=hp 3 _ rfl;simp only[Ν,Jac] at l0 l1 l2 l3;clear hp;cases dd with
   |true=>
    have Hy:=qh (Hy1.out (of_decide_eq_true Hd.out))
    go_wp2_with (first
     |(go_at_call 141
       refine HC.out.mono ?_;rintro e w3 ⟨rfl,bw⟩;have cY:=qh (af HB.out bw);clear bw))
    go_ret;rw[Hy.out];exact⟨rfl,cY.out⟩
   |false=>
    have Hn:=qh (Zr.out (of_decide_eq_false Hd.out))
    go_wp2_with (first
     |(go_at_call 141
       refine HC.out.mono ?_;rintro e w3 ⟨rfl,bw⟩;have cY:=qh (af HB.out bw);clear bw))
    go_roundw
    case rel=>exact⟨k+1,by omega,by go_num,Hn,cY⟩
    case measure=>simp[intOf];omega
  ·obtain rfl:k=n:=by omega
   have YJ:¬(k:Int)<(k:Int):=by omega
   have YS:Hid (oD (fun v:EC=>v.1) Vs (x1,x2)= -1):=qh (rp (pt.2 (fun u hu=>by
    obtain⟨t,ht,e⟩:=Jbv hu;exact HN.out t u (by rw[θ ht,e]) (by have:=Hl.out;omega))))
   go_wp2;go_ret;rw[YS.out];exact⟨rfl,HB.out⟩
theorem Fk (g:Nat) (A:Option Κ) (n c:Nat) (B:Option Κ) (m k:Nat) (C:Option Κ) (r rc:Nat) (x1 x2:Int) (L:List VC) (w:ο) (hg:Whole w g 28 [γ A n c,γ B m k,γ C r rc]) (h:aS w w.heap.size 5 A n c (ao vC L)) (hn:n≤1000000):
 Ζ η 110 #[υ (ζ ⟨g,0,ε⟩),φ #[J x1,J x2]] w fun e w'=>e=.returned (J (oD (fun v:VC=>v.1) L (x1,x2)))∧σ w.heap.size w w':=by
 have hx:Whole (w.alloc (δ #[J x1,J x2] 30)) w.heap.size 30 [J x1,J x2]:=Whole.new_ _ _ [_,_];have hb:=ax w (δ #[J x1,J x2] 30);have hG:=hg.al (δ #[J x1,J x2] 30);have HI:=qh (GQ _ _ _ _ x1 x2 L _ (h.bl hb) hx hn);have HB:=qh hb;have c0:=hG.cell (i:=0) rfl;clear hx hb hG hg h;go_enter Tryz.func110,Tryz.ntmps110
 go_wp2_with (first
  |(go_at_call 133
    refine HI.out.mono ?_;rintro e w3 ⟨rfl,bw⟩;have cY:=qh (af HB.out bw);clear bw))
 go_ret;exact⟨rfl,cY.out⟩
theorem NG (g:Nat) (A:Option Κ) (n c:Nat) (B:Option Κ) (m k:Nat) (C:Option Κ) (r rc:Nat) (x1 x2:Int) (L:List EC) (w:ο) (hg:Whole w g 28 [γ A n c,γ B m k,γ C r rc]) (h:aS w w.heap.size 4 B m k (ao eC L)) (hn:m≤1000000):
 Ζ η 113 #[υ (ζ ⟨g,0,ε⟩),φ #[J x1,J x2]] w fun e w'=>e=.returned (J (oD (fun v:EC=>v.1) L (x1,x2)))∧σ w.heap.size w w':=by
 have hx:Whole (w.alloc (δ #[J x1,J x2] 30)) w.heap.size 30 [J x1,J x2]:=Whole.new_ _ _ [_,_];have hb:=ax w (δ #[J x1,J x2] 30);have hG:=hg.al (δ #[J x1,J x2] 30);have HI:=qh (Gx _ _ _ _ x1 x2 L _ (h.bl hb) hx hn);have HB:=qh hb;have c0:=hG.cell (i:=1) rfl;clear hx hb hG hg h;go_enter Tryz.func113,Tryz.ntmps113
 go_wp2_with (first
  |(go_at_call 140
    refine HI.out.mono ?_;rintro e w3 ⟨rfl,bw⟩;have cY:=qh (af HB.out bw);clear bw))
 go_ret;exact⟨rfl,cY.out⟩
theorem AL (v:VC) (x1 x2:Int) (w:ο):Ζ η 136 #[φ (vC v).toArray,φ #[J x1,J x2]] w fun e w'=>e=.returned (J (eN v.1 (x1,x2)))∧σ w.heap.size w w':=by
 have HO:=qh (xm v.1.1 v.1.2 x1 x2);obtain⟨o,go⟩:=az (eN v.1 (x1,x2));have HO:Hid (∀w,Ζ η 137 #[φ #[J v.1.1,J v.1.2],φ #[J x1,J x2]] w fun e w'=>e=.returned (J o)∧σ w.heap.size w w'):=qh (by rw[←go];exact HO.out);rw[go];clear go;obtain⟨⟨i1,i2⟩,⟨rA,rn,rc,rL⟩,lb,at_⟩:=v;show Ζ η 136 #[φ #[J i1,J i2,γ rA rn rc,μ lb,J at_],φ #[J x1,J x2]] w _;have HO:Hid (∀w,Ζ η 137 #[φ #[J i1,J i2],φ #[J x1,J x2]] w fun e w'=>e=.returned (J o)∧σ w.heap.size w w'):=HO;go_enter Tryz.func136,Tryz.ntmps136
 go_wp2_with (first
  |(go_at_call 137
    refine(HO.out _).mono ?_
    rintro e w2 ⟨rfl,hb⟩;have HB:=qh (af (aF (ax w (δ #[J i1,J i2,γ rA rn rc,μ lb,J at_] 59)) (δ #[J x1,J x2] 30)) hb);clear hb))
 go_ret;exact⟨rfl,HB.out⟩
theorem OD (A:Option Κ) (n c:Nat) (G:List VC) (x1 x2:Int) (w:ο) (h:aS w w.heap.size 5 A n c (ao vC G)) (hn:n≤1000000) (cf:Nat→Int) (LZ:∀t x,G[t]? =ζ x→eN x.1 (x1,x2)=cf t) (mh:∀a b,a≤b→b<n→cf b<0→cf a<0):
 Ζ η 135 #[γ A n c,φ #[J x1,J x2],.func (.func 136) #[] #[]] w fun e w'=>∃i:Nat,i≤n∧(∀t,t<i→cf t<0)∧(∀t,i≤t→t<n→0≤cf t)∧e=.returned (.tuple #[J (i:Int),Β (decide (i<n) && decide (cf i=0))])∧σ w.heap.size w w':=by
 have H:=qh h;have Hl:=qh (h.rlen aN (by decide));have HM:=qh mh;have he:Sv 136:=uQ Tryz.func136 (by kernel_rfl) rfl;clear h mh;go_enter Tryz.func135,Tryz.ntmps135;go_wp2;have kc:=Whole.new_ w 30 [J x1,J x2];have nK:=ax w (δ #[J x1,J x2] 30);obtain⟨W0,bJ⟩:=az (w.alloc (δ #[J x1,J x2] 30));replace kc:Whole W0 w.heap.size 30 [J x1,J x2]:=bJ▸kc;rw[bJ] at nK ⊢;obtain⟨b0,bS⟩:=az w.heap.size;rw[bS] at kc ⊢;have aR:=qh kc;have bn:=qh nK;clear bJ bS kc nK;go_loopw [9,10] (fun s9 Qe wr=>∃lo hi:Nat,s9=J lo∧Qe=J hi∧lo≤hi∧hi≤n∧Hid (Whole wr b0 30 [J x1,J x2])∧Hid (σ w.heap.size w wr)∧Hid ((∀t,t<lo→cf t<0)∧(∀t,hi≤t→t<n→0≤cf t))) (fun s9 Qe _=>(intOf Qe).toNat - (intOf s9).toNat)
 case atStart=>exact⟨0,n,rfl,rfl,Jas _,Nat.le_refl _,aR,bn,qh ⟨fun t ht=>absurd ht (Nat.not_lt_zero _),fun t h1 h2=>by omega⟩⟩
 case round=>
  clear aR bn;obtain⟨lo,hi,rfl,rfl,hlh,mA,HX,HB,HI⟩:=hrel;obtain⟨wo,dB⟩:=az wr;rw[dB] at HX HB ⊢;clear dB
  by_cases eS:lo<hi
  ·obtain⟨m,gm⟩:=az ((lo+hi) / 2);have WH:lo≤m:=by omega
   have NW:m<hi:=by omega
   have hmn:m<n:=by omega
   have e1:((lo:Int)+(hi:Int)) / 2=(m:Int):=by omega
   obtain⟨x,hx⟩:∃x,G[m]? =ζ x:=⟨_,θ (by have:=Hl.out;omega)⟩
   obtain⟨b,off,rfl,bZ,bD⟩:=H.out.place aN (by decide) (by omega);have cR:=HB.out;have Cz:=LZ m x hx;have xz:=AL x x1 x2;have hp:=bD m x hx;obtain⟨ov,wO⟩:=az (eN x.1 (x1,x2));rw[wO] at Cz xz;obtain⟨⟨i1,i2⟩,⟨rA,rn,rc,rL⟩,lb,at_⟩:=x;have q0:=hp 0 _ rfl;have q1:=hp 1 _ rfl;have q2:=hp 2 _ rfl;have q3:=hp 3 _ rfl;have q4:=hp 4 _ rfl;simp only[Ν,Jac] at q0 q1 q2 q3 q4;have l0:=(cR.cell (p:=⟨b,off+m*5,ε⟩) bZ).trans q0;have l1:=(cR.cell (p:=⟨b,off+m*5+1,ε⟩) bZ).trans q1;have l2:=(cR.cell (p:=⟨b,off+m*5+2,ε⟩) bZ).trans q2;have l3:=(cR.cell (p:=⟨b,off+m*5+3,ε⟩) bZ).trans q3;have l4:=(cR.cell (p:=⟨b,off+m*5+4,ε⟩) bZ).trans q4;have HC:Hid (∀w',Ζ η 136 #[φ #[J i1,J i2,γ rA rn rc,μ lb,J at_],φ #[J x1,J x2]] w' fun e cD=>e=.returned (J ov)∧σ w'.heap.size w' cD):=qh xz;have F0:Hid (ov=cf m):=qh Cz;clear hx bD hp bZ cR q0 q1 q2 q3 q4 Cz wO xz;go_upto_region 5 with fail
   have iM:=dE l0;have ld1:=dE l1;have rQ:=dE l2;have BZ:=dE l3;have B4:=dE l4;have BE:=dX (i:=0) HX.out rfl;have Ap:=dX (i:=1) HX.out rfl;clear l0 l1 l2 l3 l4
   by_cases u7:ov<0
   ·have hq:decide (ov<0)=τ:=decide_eq_true u7;have xU:Hid ((∀t,t<m+1→cf t<0)∧(∀t,hi≤t→t<n→0≤cf t)):=qh ⟨fun t ht=>HM.out t m (by omega) (by omega) (by rw[←F0.out];exact u7),HI.out.2⟩;clear u7 HI F0;refine aw (aT) (by kernel_rfl) ?_;refine aq 0 ?_;refine aq 1 ?_;refine aq 2 ?_;refine aq 3 ?_;refine aq 4 ?_;refine aq 5 ?_;refine bN 6 (hy:=by apply cz;rfl;rotate_left;intro w' aC;exact HC.out w';intro w';go_simp) (h:=?_);refine aq 7 ?_;refine aG (by kernel_rfl) ?_ _;intro W3 iu;have cY:=qh (af (ba HB.out) iu);have ff:=qh (HX.out.dr.bl iu);clear iu HB HX iM ld1 rQ BZ B4 BE Ap HC;go_wp2;go_roundw
    case rel=>exact⟨m+1,hi,by go_num,rfl,by omega,mA,ff,cY,xU⟩
    case measure=>simp[intOf];omega
   ·have hq:decide (ov<0)=ρ:=decide_eq_false u7;have xU:Hid ((∀t,t<lo→cf t<0)∧(∀t,m≤t→t<n→0≤cf t)):=qh ⟨HI.out.1,fun t ht Rx=>Int.not_lt.1 fun h=>by have:=HM.out m t ht Rx h;rw[←F0.out] at this;omega⟩;clear u7 HI F0;refine aw (aT) (by kernel_rfl) ?_;refine aq 0 ?_;refine aq 1 ?_;refine aq 2 ?_;refine aq 3 ?_;refine aq 4 ?_;refine aq 5 ?_;refine bN 6 (hy:=by apply cz;rfl;rotate_left;intro w' aC;exact HC.out w';intro w';go_simp) (h:=?_);refine aq 7 ?_;refine aG (by kernel_rfl) ?_ _;intro W3 iu;have cY:=qh (af (ba HB.out) iu);have ff:=qh (HX.out.dr.bl iu);clear iu HB HX iM ld1 rQ BZ B4 BE Ap HC;go_wp2;go_roundw
    case rel=>exact⟨lo,m,rfl,by first|rfl|go_num,by omega,by omega,ff,cY,xU⟩
    case measure=>simp[intOf];omega
  ·obtain rfl:hi=lo:=by omega
   by_cases rX:hi<n
   ·have e2:(hi:Int)<(n:Int):=by omega
    have e3:¬(hi:Int)<(hi:Int):=by omega
    obtain⟨x,hx⟩:∃x,G[hi]? =ζ x:=⟨_,θ (by have:=Hl.out;omega)⟩
    obtain⟨b,off,rfl,bZ,bD⟩:=H.out.place aN (by decide) (by omega);have cR:=HB.out;have Cz:=LZ hi x hx;have xz:=AL x x1 x2;have hp:=bD hi x hx;obtain⟨ov,wO⟩:=az (eN x.1 (x1,x2));rw[wO] at Cz xz;obtain⟨⟨i1,i2⟩,⟨rA,rn,rc,rL⟩,lb,at_⟩:=x;have q0:=hp 0 _ rfl;have q1:=hp 1 _ rfl;have q2:=hp 2 _ rfl;have q3:=hp 3 _ rfl;have q4:=hp 4 _ rfl;simp only[Ν,Jac] at q0 q1 q2 q3 q4;have l0:=(cR.cell (p:=⟨b,off+hi*5,ε⟩) bZ).trans q0;have l1:=(cR.cell (p:=⟨b,off+hi*5+1,ε⟩) bZ).trans q1;have l2:=(cR.cell (p:=⟨b,off+hi*5+2,ε⟩) bZ).trans q2;have l3:=(cR.cell (p:=⟨b,off+hi*5+3,ε⟩) bZ).trans q3;have l4:=(cR.cell (p:=⟨b,off+hi*5+4,ε⟩) bZ).trans q4;have HC:Hid (∀w',Ζ η 136 #[φ #[J i1,J i2,γ rA rn rc,μ lb,J at_],φ #[J x1,J x2]] w' fun e cD=>e=.returned (J ov)∧σ w'.heap.size w' cD):=qh xz;have F0:Hid (ov=cf hi):=qh Cz;clear hx bD hp bZ cR q0 q1 q2 q3 q4 Cz wO xz;obtain⟨bq,Eb⟩:=az ((ov==0))
    have pJ:(decide (hi<n) && decide (cf hi=0))=bq:=by
     rw[decide_eq_true rX,←F0.out,←Eb,Bool.true_and,Bool.eq_iff_iff,decide_eq_true_iff,beq_iff_eq]
    have Cw:=qh pJ;clear pJ;go_upto_region 8 with fail
    have iM:=dE l0;have ld1:=dE l1;have rQ:=dE l2;have BZ:=dE l3;have B4:=dE l4;have BE:=dX (i:=0) HX.out rfl;have Ap:=dX (i:=1) HX.out rfl;clear l0 l1 l2 l3 l4;refine aw (aT) (by kernel_rfl) ?_;refine aq 0 ?_;refine aq 1 ?_;refine aq 2 ?_;refine aq 3 ?_;refine aq 4 ?_;refine aq 5 ?_;refine aq 6 ?_;refine aq 7 ?_;refine aq 8 ?_;refine aq 9 ?_;refine aq 10 ?_;refine bN 11 (hy:=by apply cz;rfl;rotate_left;intro w' aC;exact HC.out w';intro w';go_simp) (h:=?_);refine aq 12 ?_;refine aq 13 ?_;refine aq 14 ?_;refine aq 15 ?_;refine aG (by kernel_rfl) ?_ _;intro W3 iu;have cY:=qh (af (ba HB.out) iu);clear iu HB HX iM ld1 rQ BZ B4 BE Ap HC;go_wp2;refine bodyPost_ret (v:=.tuple #[J (hi:Int),Β bq]) (by simp[results,Tryz.results135,go_sem]) rfl ?_;exact⟨hi,mA,HI.out.1,HI.out.2,by rw[Cw.out],cY.out⟩
   ·have e2:¬(hi:Int)<(n:Int):=by omega
    have e3:¬(hi:Int)<(hi:Int):=by omega
    have pJ:(decide (hi<n) && decide (cf hi=0))=ρ:=by rw[decide_eq_false rX];rfl
    have Cw:=qh pJ;clear pJ;go_upto_region 8 with fail
    refine aw (aT) (by kernel_rfl) ?_;refine aq 0 ?_;refine aq 1 ?_;refine aq 2 ?_;refine aq 3 ?_;refine aq 4 ?_;refine bP 5 ?_;refine bP 6 ?_;refine bP 7 ?_;refine bP 8 ?_;refine bP 9 ?_;refine bP 10 ?_;refine bP 11 ?_;refine bP 12 ?_;refine aq 13 ?_;refine aq 14 ?_;refine aq 15 ?_;refine aG (by kernel_rfl) ?_ _;intro W3 iu;have cY:=qh (af (ba HB.out) iu);clear iu HB HX;go_wp2;refine bodyPost_ret (v:=.tuple #[J (hi:Int),Β ρ]) (by simp[results,Tryz.results135,go_sem]) rfl ?_;exact⟨hi,mA,HI.out.1,HI.out.2,by rw[Cw.out],cY.out⟩
theorem ta {W w':ο} {b:Nat} (h:Kept (fun x=>x=b) W w'):W.grownBy w' (ζ b):=⟨h.os,h.tape,h.output,h.size,fun i hi bQ=>h.block i hi (fun e=>bQ (by rw[e]))⟩
theorem yC {W w':ο} {r:Option Nat} (h:σ W.heap.size W w'):W.grownBy w' r:=⟨h.os,h.tape,h.output,h.size,fun i hi _=>h.block i hi⟩
theorem CJ:(η.info? 59).map (fun i=>(i.zero,i.size,i.bytes))=ζ (ζ (JbL #[J 0,J 0,γ ε 0 0,μ {data:=#[]},J 0]),5,64):=by kernel_rfl
theorem NU (x:VC):ao vC [x]=vC x:=by simp[ao]
theorem ze {w W:ο} {B:Nat} {A:Option Κ} {n c vb:Nat} {G:List VC} (x:VC) (hO:Ow w B 59 5 (γ A n c) n (ao vC G) W) (hx:aS W W.heap.size 5 (ζ ⟨vb,0,ε⟩) 1 1 (ao vC [x])) (hn:n≤1000):
 Ζ η 138 #[γ A n c,J (n:Int),γ (ζ ⟨vb,0,ε⟩) 1 1] W fun e w'=>∃A' c',e=.returned (γ A' (n+1) c')∧Ow w B 59 5 (γ A' (n+1) c') (n+1) (ao vC (G++[x])) w'∧W.grownBy w' (Ο A n c).ownBlock:=by
 obtain⟨iG,Br,vZ,oE,sD⟩:=a6 CJ;have HO:=qh hO;have HL:=qh hx;have tH:n≤c:=(bk hO.own).le;have qW:=fV hO.own;unfold Jap at qW;have e1:((n:Int)==(n:Int))=τ:=by simp
 clear hO hx
 by_cases Xj:c=n
 ·go_enter Tryz.func138,Tryz.ntmps138
  go_wp2_with (first
   |(at_builtin
     refine eX rfl (.tmp 23) (.tmp 24) _ rfl _ 59 iG _ 5 64 Tryz.underlying22 Br vZ oE sD rfl (by decide) _ _ _ rfl HO.out _ _ _ _ _ rfl HL.out (cS vC j3 [x]) (by unfold Jap;omega) (by omega) ?_;intro v5 W5 mZ fM yf;obtain⟨A5,c5,rfl,-⟩:=mZ.rds;have kr:=qh mZ;have Mz:=qh yf;clear mZ fM yf))
  go_ret;exact⟨_,_,rfl,by rw[bX];exact kr.out,Mz.out⟩
 ·go_enter Tryz.func138,Tryz.ntmps138
  go_wp2_with (first
   |(at_builtin
     refine eX rfl (.tmp 23) (.tmp 24) _ rfl _ 59 iG _ 5 64 Tryz.underlying22 Br vZ oE sD rfl (by decide) _ _ _ rfl HO.out _ _ _ _ _ rfl HL.out (cS vC j3 [x]) (by unfold Jap;omega) (by omega) ?_;intro v5 W5 mZ fM yf;obtain⟨A5,c5,rfl,-⟩:=mZ.rds;have kr:=qh mZ;have Mz:=qh yf;clear mZ fM yf))
  go_ret;exact⟨_,_,rfl,by rw[bX];exact kr.out,Mz.out⟩
theorem Hg (rows junk new:List Value) (i n:Nat) (hr:rows.length=n*5) (hi:i<n) (hj:5≤junk.length) (hn:new.length=5):
 eF (eF (rows++junk) ((i+1)*5) (rows.drop (i*5))) (i*5) new=(rows.take (i*5)++(new++rows.drop (i*5)))++junk.drop 5:=by
 obtain⟨P,hP⟩:=az (rows.take (i*5));obtain⟨S,hS⟩:=az (rows.drop (i*5));have Yy:rows=P++S:=by rw[←hP,←hS,List.take_append_drop]
 have SD:P.length=i*5:=by rw[←hP,JaA];omega
 have Yj:S.length=(n - i)*5:=by rw[←hS,Jaz];omega
 rw[hP,hS,Yy]
 have e1:eF (P++S++junk) ((i+1)*5) S=P++((S++junk).take 5++(S++junk.drop 5)):=by
  unfold eF;rw[Jay P S junk,Jbt,JaR,SD];rw[Ι (by omega),Jak (by omega),JaF,Jay];rw[show(i+1)*5 - i*5=5 by omega];congr 2;rw[JaR,Jak (by omega),JaF];rw[show(i+1)*5+S.length - i*5 - S.length=5 by omega]
 rw[e1];unfold eF;have EZ:((S++junk).take 5).length=5:=by rw[JaA,Ε];omega
 rw[Jbt,JaR,SD,hn,JaP,JbQ,Jbi,Ι (by omega),Jak (by omega),JaF];rw[show i*5+5 - i*5=5 by omega,JaR,EZ,Jak (by omega),JaF,JaP,List.drop_zero];simp[Jay]
theorem mx {G:List VC} (i:Nat):(ao vC G).take (i*5)=ao vC (G.take i)∧(ao vC G).drop (i*5)=ao vC (G.drop i):=⟨(jy vC aN G i).symm,(nj vC aN G i).symm⟩
theorem wH {w W:ο} {B:Nat} {A:Option Κ} {n c vb i:Nat} {G:List VC} (x:VC) (hO:Ow w B 59 5 (γ A n c) n (ao vC G) W) (hx:Whole W vb 59 (vC x)) (bQ:ζ vb≠(Ο A n c).ownBlock) (hn:n≤1000) (hi:i<n) (Lo:n+1≤c):
 Ζ η 138 #[γ A n c,J (i:Int),γ (ζ ⟨vb,0,ε⟩) 1 1] W fun e w'=>∃A' c',e=.returned (γ A' (n+1) c')∧Ow w B 59 5 (γ A' (n+1) c') (n+1) (ao vC (G.take i++x::G.drop i)) w'∧W.grownBy w' (Ο A n c).ownBlock:=by
 obtain⟨iG,Br,vZ,oE,sD⟩:=a6 CJ;obtain⟨b,junk,rfl,gi,hW,qI,tH,qW,pR⟩:=eT hO.own (by omega);have th:vb≠b:=fun e=>bQ (by rw[e];rfl)
 have Ak:(c - n)*5=junk.length:=by rw[Ε,pR] at qI;rw[Nat.sub_mul];omega
 have UW:5≤junk.length:=by rw[←Ak];omega
 unfold Jap at qW;have FP:(ao vC G++junk).length=c*5:=qI;have pj:(n - i)*5=((ao vC G).drop (i*5)).length:=by rw[Jaz,pR,←Nat.sub_mul]
 have mf:(η.info? 59).map (·.size)=ζ 5:=by rw[Br];simp[oE]
 have MT:∀w,(Go.sizeOf 59).run η w=.ok 5 w:=fun w=>by simp[sizeOf,typeInfo,Br,oE]
 have SH:∀lb cb,(callFunc 156 #[γ (ζ ⟨vb,0,ε⟩) 1 1,γ (ζ ⟨b,(i+1)*5,ε⟩) lb cb]).run η W=.ok (.value (Β ρ)) W:=fun lb cb=>by
  rw[run_callFunc_extern Tryz.func156 (by kernel_rfl) (by kernel_rfl) (by kernel_rfl) (e:=Extern.SlicesOverlaps.overlaps #[22,22] #[4]) (by kernel_rfl),
   Lib.run_overlaps_apart W 22 4 59 Tryz.underlying22 5 MT ⟨vb,0,ε⟩ ⟨b,(i+1)*5,ε⟩ 1 1 lb cb th 59 59 _ _ (lC hx) (lC hW) (by rw[qI];omega) (hx.free 0) (hx.free _)]
  rfl
 have Ic:∀v∈(ao vC G).drop (i*5),v.oneCell'=τ:=fun v hv=>cS vC j3 G v (JbC hv)
 have Jf:∀ty dc sc,(Jbr #[22,22] ty #[γ (ζ ⟨b,(i+1)*5,ε⟩) (n - i) dc,γ (ζ ⟨b,i*5,ε⟩) (n+1 - i) sc]).run η W.drew=.ok (goInt (n - i:Nat)) (W.drew.setCells b ((i+1)*5) ((ao vC G).drop (i*5))):=fun ty dc sc=>
  fv W.drew _ _ ty 59 5 b ((i+1)*5) (n - i) dc ⟨b,i*5,ε⟩ (n+1 - i) sc (n - i) _ Tryz.underlying22 mf (by simp only[JbR];split<;>omega) pj
   (fun j v hj=>by
     rw[Ν];rw[JaS] at hj;exact hW.dr.cell (i:=i*5+j) (by rw[Jab (by have:=(ν.1 hj).1;omega)];exact hj))
   (fun j hj=>gY hW.dr (by rw[←pj] at hj;rw[FP];omega)) (fun j hj=>hW.dr.free _) Ic
 have wZ:=hW.dr.cells_ ((ao vC G).drop (i*5)) ((i+1)*5) W.drew _ (by rw[←pj,FP];omega);obtain⟨W1,a7⟩:=az (W.drew.setCells b ((i+1)*5) ((ao vC G).drop (i*5)));have kI:Whole W1 vb 59 (vC x):=a7▸hx.dr.cells_far th _ _;have fe:σ w.heap.size w W1:=a7▸below_setCells hO.below.drew (Λ hO.lo gi) _ _;have EN:W1.heap.size=W.heap.size:=by rw[←a7,cE];rfl
 rw[a7] at Jf wZ;have bD:(eF (ao vC G++junk) ((i+1)*5) ((ao vC G).drop (i*5))).length=c*5:=by rw[iP _ _ _ (by rw[←pj,FP];omega),FP]
 have Qx:∀ty dc,(Jbr #[22,22] ty #[γ (ζ ⟨b,i*5,ε⟩) (n+1 - i) dc,γ (ζ ⟨vb,0,ε⟩) 1 1]).run η W1=.ok (goInt (1:Nat)) (W1.setCells b (i*5) (vC x)):=fun ty dc=>
  fv W1 _ _ ty 59 5 b (i*5) (n+1 - i) dc ⟨vb,0,ε⟩ 1 1 1 _ Tryz.underlying22 mf (by simp only[JbR];split<;>omega) rfl
   (fun j v hj=>by
     rw[Ν,JaI];exact kI.cell hj)
   (fun j hj=>gY wZ (by rw[bD];rw[aN] at hj;omega)) (fun j hj=>wZ.free _) (j3 x)
 have OE:=wZ.cells_ (vC x) (i*5) W1 _ (by rw[bD,aN];omega);rw[Hg (ao vC G) junk (vC x) i n pR hi UW (aN x),(mx i).1,(mx i).2] at OE;have my:ao vC (G.take i)++(vC x++ao vC (G.drop i))=ao vC (G.take i++x::G.drop i):=by rw[bX];rfl
 rw[my] at OE;have Ss:G.length=n:=(bk hO.own).rlen aN (by decide)
 have jd:(ao vC (G.take i++x::G.drop i)).length=(n+1)*5:=by
  rw[←my,Ε,Ε,←(mx i).1,←(mx i).2,JaA,Jaz,pR,aN];omega
 have HF:Hid (Ow w B 59 5 (γ (ζ ⟨b,0,ε⟩) (n+1) c) (n+1) (ao vC (G.take i++x::G.drop i)) (W1.setCells b (i*5) (vC x))):=qh
  ⟨lL (junk:=junk.drop 5) OE gi (by rw[Ε,jd,Jaz,←Ak];omega) Lo (by unfold Jap;omega) jd,
   below_setCells fe (Λ hO.lo gi) _ _,hO.lo,by rw[cE,EN];exact hO.hi⟩
 have QD:Hid (W.grownBy (W1.setCells b (i*5) (vC x)) (ζ b)):=qh (by
  rw[←a7];exact ta (((Kept.refl (fun x=>x=b) W).drew).trans ((fL (S:=fun x=>x=b) rfl _ _).trans (fL (S:=fun x=>x=b) rfl _ _))))
 have kZ:¬((i:Int)=(n:Int)):=by omega
 have qL:Jaw.wrap ((i:Int)+1)=(i:Int)+1:=by rw[JaT];omega
 have jU:Jaw.wrap ((n:Int)+1)=(n:Int)+1:=by rw[JaT];omega
 have fe:(0:Int)≤(i:Int)+1:=by omega
 have mA:i≤n:=by omega
 have Rx:((i:Int)+1).toNat=i+1:=by omega
 have ZP:((n:Int)+1).toNat=n+1:=by omega
 have ar:¬(c=i+1):=by omega
 have bw:(i:Int)≤(n:Int)+1:=by omega
 have s5:¬(c=i):=by omega
 have fM:¬(c:Int)<(n:Int)+1:=by omega
 have dO:(n:Int)+1≤(c:Int):=by omega
 have mixed:η.follows JbG=τ:=by kernel_rfl
 clear hO hx bQ hW qI pR th Ak UW FP pj mf MT Ic wZ a7 kI bD OE my Ss jd EN;go_enter Tryz.func138,Tryz.ntmps138;go_wp2_with (simp only[SH])
 go_region_law_o (refine step_copy_runI rfl _ _ 22 22 rfl _ _ (by simp[Act.eval,ξ]) (by simp[Act.eval,ξ]) (Jf _ _ _) ?_);go_wp2_with (at_builtin;refine wpList_copy_runI _ rfl _ _ 22 22 rfl _ _ rfl rfl (Qx _ _) ?_)
 go_ret;exact⟨_,_,rfl,HF.out,QD.out⟩
theorem DB (P Z new S:List Value) (i:Nat) (hP:P.length=i*5) (hn:new.length=5) (hZ:5+S.length≤Z.length):
 eF (eF (P++Z) (i*5) new) ((i+1)*5) S=(P++(new++S))++Z.drop (5+S.length):=by
 have e1:eF (P++Z) (i*5) new=(P++new)++Z.drop 5:=by
  unfold eF;rw[Jbt,JaR,hP,hn,JaP,JbQ,Jbi,Ι (by omega),Jak (by omega),JaF];rw[show i*5+5 - i*5=5 by omega,Jay]
 have hl:(P++new).length=(i+1)*5:=by rw[Ε,hP,hn];omega
 rw[e1];unfold eF;rw[Jbt,JaR,hl,JaP,JbQ,Jbi,Ι (by omega),Jak (by omega),JaF];rw[show(i+1)*5+S.length - (i+1)*5=S.length by omega,List.drop_drop];simp[Jay]
theorem Bi (k:Nat):(JaO (JbL #[J 0,J 0,γ ε 0 0,μ {data:=#[]},J 0]).cells k).size=k*5:=by
 simp[JaO,Value.cells]
theorem wQ {w W:ο} {B:Nat} {A:Option Κ} {n vb i:Nat} {G:List VC} (x:VC) (hO:Ow w B 59 5 (γ A n n) n (ao vC G) W) (hx:Whole W vb 59 (vC x)) (hn:n≤1000) (hi:i<n):
 Ζ η 138 #[γ A n n,J (i:Int),γ (ζ ⟨vb,0,ε⟩) 1 1] W fun e w'=>∃A' c',e=.returned (γ A' (n+1) c')∧Ow w B 59 5 (γ A' (n+1) c') (n+1) (ao vC (G.take i++x::G.drop i)) w'∧W.grownBy w' (Ο A n n).ownBlock:=by
 obtain⟨iG,Br,vZ,oE,sD⟩:=a6 CJ;obtain⟨b,junk,rfl,gi,hW,qI,tH,qW,pR⟩:=eT hO.own (by omega);have pj:(n - i)*5=((ao vC G).drop (i*5)).length:=by rw[Jaz,pR,←Nat.sub_mul]
 have bD:((ao vC G).take (i*5)).length=i*5:=by rw[JaA,pR];omega
 have mf:(η.info? 59).map (·.size)=ζ 5:=by rw[Br];simp[oE]
 have Sw:i+(n+1 - i)=n+1:=by omega
 have PS:(n:Int)+1 - (i:Int)=((n+1 - i:Nat):Int):=by omega
 have Ic:∀v∈(ao vC G).drop (i*5),v.oneCell'=τ:=fun v hv=>cS vC j3 G v (JbC hv)
 have hold:(Builtin.firstCells iG.size i (γ (ζ ⟨b,0,ε⟩) i n)).run η W.drew=.ok ((ao vC G).take (i*5)).toArray W.drew:=by
  rw[oE]
  exact run_firstCells_some W.drew 5 i ⟨b,0,ε⟩ i n _ bD (fun j v hj=>by
   rw[Ν,JaI];rw[List.getElem?_take] at hj;split at hj
   ·exact hW.dr.cell (i:=j) (by rw[Jab (ν.1 hj).1];exact hj)
   ·cases hj)
 obtain⟨g,hg⟩:=az W.heap.size;obtain⟨GC,NK⟩:=az (grownCap W (n+1) n 59);have ZD:n+1≤GC:=by rw[←NK];exact grownCap_ge W _ _ _
 have Lg:GC≤Jap:=by rw[←NK];exact grownCap_le_maxLen W (n+1) n 59 (by unfold Jap;omega)
 obtain⟨xF,Dk⟩:=az (((ao vC G).take (i*5)).toArray++JaO (JbL #[J 0,J 0,γ ε 0 0,μ {data:=#[]},J 0]).cells (n+1 - i)++JaO (JbL #[J 0,J 0,γ ε 0 0,μ {data:=#[]},J 0]).cells (GC - (n+1)))
 have U7:∀ty,(Builtin.append_ #[22,3] ty #[γ (ζ ⟨b,0,ε⟩) i n,J ((n:Int)+1 - (i:Int))]).run η W=.ok (γ (ζ ⟨g,0,ε⟩) (n+1) GC) (W.drew.alloc (δ xF 59)):=fun ty=>by
  have h:=Lib.run_append_grow_zeros W 22 3 ty 59 iG _ .i64 .i64 Tryz.underlying22 Tryz.underlying3 Br vZ (ζ ⟨b,0,ε⟩) i n _ hold (n+1 - i) (by omega) (by omega) (by omega) (by omega) (by rw[sD];omega) (by rw[sD,Sw];exact growslice_fits (by omega) (by omega));rw[Sw,hg,NK,Dk] at h;rw[PS];exact h
 obtain⟨Z,hZ⟩:=az ((JaO (JbL #[J 0,J 0,γ ε 0 0,μ {data:=#[]},J 0]).cells (n+1 - i)++JaO (JbL #[J 0,J 0,γ ε 0 0,μ {data:=#[]},J 0]).cells (GC - (n+1))).toList)
 have M6:Z.length=(GC - i)*5:=by
  rw[←hZ,Array.length_toList,Array.size_append,Bi,Bi];omega
 have Q6:xF=((ao vC G).take (i*5)++Z).toArray:=by
  rw[←Dk,←hZ];simp
 have VX:b≠g:=by have:=hW.lt;omega
 have Y1:vb≠g:=by have:=hx.lt;omega
 obtain⟨P,hP⟩:=az ((ao vC G).take (i*5));obtain⟨S,hS⟩:=az ((ao vC G).drop (i*5));rw[hP] at bD Q6;rw[hS] at pj Ic;have J6:(P++Z).length=GC*5:=by rw[Ε,bD,M6];omega
 have Gc:Whole (W.drew.alloc (δ xF 59)) g 59 (P++Z):=by
  rw[Q6];exact Whole.new2 hg.symm
 have QZ:Whole (W.drew.alloc (δ xF 59)) vb 59 (vC x):=hx.dr.alloc _;have Rn:Whole (W.drew.alloc (δ xF 59)) b 59 (ao vC G++junk):=hW.dr.alloc _;have ZK:=hO.below.size;have pC:σ w.heap.size w (W.drew.alloc (δ xF 59)):=aF (ba hO.below) _;have j7:(W.drew.alloc (δ xF 59)).heap.size=W.heap.size+1:=by simp
 have kl1:σ W.heap.size W (W.drew.alloc (δ xF 59)):=aF (ba (Θ _ _)) _;obtain⟨V1,jr⟩:=az (W.drew.alloc (δ xF 59));rw[jr] at Gc QZ Rn pC j7 U7 kl1
 have CR:∀V,V=V1→∀ty dc,(Jbr #[22,22] ty #[γ (ζ ⟨g,i*5,ε⟩) (n+1 - i) dc,γ (ζ ⟨vb,0,ε⟩) 1 1]).run η V=.ok (goInt (1:Nat)) (V1.setCells g (i*5) (vC x)):=fun V hV ty dc=>by
  subst hV
  exact fv V _ _ ty 59 5 g (i*5) (n+1 - i) dc ⟨vb,0,ε⟩ 1 1 1 _ Tryz.underlying22 mf (by simp only[JbR];split<;>omega) rfl
   (fun j v hj=>by
     rw[Ν,JaI];exact QZ.cell hj)
   (fun j hj=>gY Gc (by rw[J6];rw[aN] at hj;omega)) (fun j hj=>Gc.free _) (j3 x)
 have Lr:=Gc.cells_ (vC x) (i*5) V1 _ (by rw[J6,aN];omega);have QI:Whole (V1.setCells g (i*5) (vC x)) b 59 (ao vC G++junk):=Rn.cells_far VX _ _;have nD:σ w.heap.size w (V1.setCells g (i*5) (vC x)):=below_setCells pC (by omega) _ _;have X9:σ W.heap.size W (V1.setCells g (i*5) (vC x)):=below_setCells kl1 (by omega) _ _;have kZ:(V1.setCells g (i*5) (vC x)).heap.size=W.heap.size+1:=by rw[cE,j7]
 obtain⟨V2,LV⟩:=az (V1.setCells g (i*5) (vC x));rw[LV] at Lr QI nD kZ CR X9;have Fj:(eF (P++Z) (i*5) (vC x)).length=GC*5:=by rw[iP _ _ _ (by rw[J6,aN];omega),J6]
 have Qz:∀ty dc sc,(Jbr #[22,22] ty #[γ (ζ ⟨g,(i+1)*5,ε⟩) (n - i) dc,γ (ζ ⟨b,i*5,ε⟩) (n - i) sc]).run η V2.drew=.ok (goInt (n - i:Nat)) (V2.drew.setCells g ((i+1)*5) S):=fun ty dc sc=>
  fv V2.drew _ _ ty 59 5 g ((i+1)*5) (n - i) dc ⟨b,i*5,ε⟩ (n - i) sc (n - i) _ Tryz.underlying22 mf (by simp only[JbR];split<;>omega) pj
   (fun j v hj=>by
     rw[Ν];rw[←hS,JaS] at hj;exact QI.dr.cell (i:=i*5+j) (by rw[Jab (ν.1 hj).1];exact hj))
   (fun j hj=>gY Lr.dr (by rw[←pj] at hj;rw[Fj];omega)) (fun j hj=>Lr.dr.free _) Ic
 have RW:=Lr.dr.cells_ S ((i+1)*5) V2.drew _ (by rw[←pj,Fj];omega);rw[DB P Z (vC x) S i bD (aN x) (by rw[←pj,M6];omega)] at RW;have my:P++(vC x++S)=ao vC (G.take i++x::G.drop i):=by rw[←hP,←hS,(mx i).1,(mx i).2,bX];rfl
 have jd:(P++(vC x++S)).length=(n+1)*5:=by rw[Ε,Ε,bD,aN,←pj];omega
 have GS:(Z.drop (5+S.length)).length=(GC - (n+1))*5:=by rw[Jaz,M6,←pj];omega
 have HF:Hid (Ow w B 59 5 (γ (ζ ⟨g,0,ε⟩) (n+1) GC) (n+1) (ao vC (G.take i++x::G.drop i)) (V2.drew.setCells g ((i+1)*5) S)):=qh (by
  rw[←my];exact⟨lL (junk:=Z.drop (5+S.length)) RW (by have:=hO.hi;omega) (by rw[Ε,jd,GS];omega) ZD Lg jd,below_setCells (ba nD) (by omega) _ _,hO.lo,by rw[cE];show B≤V2.heap.size;have:=hO.hi;omega⟩)
 have QD:Hid (W.grownBy (V2.drew.setCells g ((i+1)*5) S) (ζ b)):=qh (yC (below_setCells (ba X9) (by omega) _ _));have hz3:¬((i:Int)=(n:Int)):=by omega
 have qL:Jaw.wrap ((i:Int)+1)=(i:Int)+1:=by rw[JaT];omega
 have jU:Jaw.wrap ((n:Int)+1)=(n:Int)+1:=by rw[JaT];omega
 have iu:Jaw.wrap ((n:Int)+1 - (i:Int))=(n:Int)+1 - (i:Int):=by rw[JaT];omega
 have fe:(0:Int)≤(i:Int)+1:=by omega
 have mA:i≤n:=by omega
 have Rx:((i:Int)+1).toNat=i+1:=by omega
 have ar:¬(GC=i+1):=by omega
 have bw:(i:Int)≤(n:Int):=by omega
 have s5:¬(n=i):=by omega
 have fM:¬(GC=i):=by omega
 have dO:(n:Int)<(n:Int)+1:=by omega
 unfold Jap at Lg;have mixed:η.follows JbG=τ:=by kernel_rfl
 subst jr;have Sk:∀ty dc,(Jbr #[22,22] ty #[γ (ζ ⟨g,i*5,ε⟩) (n+1 - i) dc,γ (ζ ⟨vb,0,ε⟩) 1 1]).run η (W.alloc (δ xF 59)).drew=.ok (goInt (1:Nat)) V2:=fun ty dc=>CR _ rfl ty dc
 clear CR LV;clear hO hx hW qI pR Y1 VX pj mf Ic hold bD Sw PS Dk M6 Q6 hZ J6 Gc QZ Rn pC j7 kl1 X9 Lr QI nD kZ Fj RW my jd GS hP hS NK ZK;go_enter Tryz.func138,Tryz.ntmps138
 go_wp2_with (first
  |(at_builtin;refine Lib.wpList_append_run _ rfl _ _ _ _ rfl _ _ rfl rfl _ _ (U7 _) ?_)
  |(at_builtin;refine wpList_copy_runI _ rfl _ _ 22 22 rfl _ _ rfl rfl (Sk _ _) ?_))
 go_region_law_o (refine step_copy_runI rfl _ _ 22 22 rfl _ _ (by simp[Act.eval,ξ]) (by simp[Act.eval,ξ]) (Qz _ _ _) ?_);go_wp2;go_ret;exact⟨_,_,rfl,HF.out,QD.out⟩
theorem yh {w W:ο} {B:Nat} {A:Option Κ} {n c vb i:Nat} {G:List VC} (x:VC) (hO:Ow w B 59 5 (γ A n c) n (ao vC G) W) (hx:Whole W vb 59 (vC x)) (bQ:ζ vb≠(Ο A n c).ownBlock) (hn:n≤1000) (hi:i≤n):
 Ζ η 138 #[γ A n c,J (i:Int),γ (ζ ⟨vb,0,ε⟩) 1 1] W fun e w'=>∃A' c',e=.returned (γ A' (n+1) c')∧Ow w B 59 5 (γ A' (n+1) c') (n+1) (ao vC (G.take i++x::G.drop i)) w'∧W.grownBy w' (Ο A n c).ownBlock:=by
 have tH:n≤c:=(bk hO.own).le;have Ss:G.length=n:=(bk hO.own).rlen aN (by decide);rcases JaM i n with h|h
 ·rcases JaM n c with h2|h2
  ·exact wH x hO hx bQ hn h h2
  ·obtain rfl:n=c:=by omega
   exact wQ x hO hx hn h
 ·obtain rfl:n=i:=by omega
  rw[Ι (by omega),Jak (by omega)];exact ze x hO (by rw[NU];exact aS.of_whole hx rfl) hn
end Go.Proofs.YtpdpbfmiahjiiaaGreat
