/- Several texts in one. -/
import Derived.Test.YtpdpbfmiahjiiaaGreatPsAB
import Derived.Test.YtpdpbfmiahjiiaaGreatPsAC
import Derived.Test.YtpdpbfmiahjiiaaGreatPsAD
set_option linter.unusedSectionVars false
set_option linter.unusedSimpArgs false
set_option linter.unusedVariables false
set_option maxRecDepth 100000
set_option maxHeartbeats 16000000
namespace Go.Proofs.YtpdpbfmiahjiiaaGreat
open Go.RowKit
open _root_.Go.Value renaming slice→γ,string→μ,pointer→υ,agg→φ,bool→Β
open _root_.Go.Obj renaming cells→δ
open _root_.Option renaming none→ε,some→ζ,some→Jae
open _root_.Go.Proofs.Tryz renaming prog→η
open _root_.List renaming getElem?_eq_getElem→θ,map_cons→ι,mem_map→Α,mem_cons→Η,mem_append→Jan,mem_filter→JaC,nodup_cons→JaJ,nodup_append→JaL,take_append_drop→Jbf,pairwise_map→Jbg,not_mem_nil→Jbh,getElem_of_mem→Jbv,flatMap_cons→Jby
open _root_.Go renaming World→ο,Calls→Ζ,Addr→Κ
open _root_.Bool renaming false→ρ,true→τ
open _root_.Go.RowKit renaming Below→σ
open _root_.Go.RowKit.Below renaming refl→Θ
open _root_.Option.some renaming inj→Μ
open _root_.Go.Addr renaming add_lit→Ν
open _root_.Nat renaming add_zero→Jac,zero_le→Jas,lt_or_ge→JaM
open _root_.Prod.mk renaming injEq→Jba
theorem OA {l:List D} {o x:D} (ho:o∈l) (hx:¬x∈l):j4 l o x=l.set (l.idxOf o) x:=by
 unfold j4;rw[if_pos ⟨ho,hx⟩,List.set_eq_take_append_cons_drop,if_pos (List.idxOf_lt_length_of_mem ho)]
theorem rJ {l:List D} {o x:D} (hn:l.Nodup) (ho:o∈l) (hx:¬x∈l):j4 l o x=l.map (fun d=>if d=o then x else d):=by
 rw[OA ho hx]
 induction l with
 |nil=>cases ho
 |cons a l ih=>
  rw[JaJ] at hn
  by_cases e:a=o
  ·subst e;rw[List.idxOf_cons_self,List.set_cons_zero,ι,if_pos rfl];congr 1;have h9:l.map (fun d=>if d=a then x else d)=l.map id:=List.map_congr_left (fun d hd=>if_neg (fun q:d=a=>hn.1 (q▸hd)));rw[h9,List.map_id]
  ·have ho':o∈l:=(Η.1 ho).resolve_left (fun q=>e q.symm)
   have h8:(a::l).idxOf o=l.idxOf o+1:=by
    rw[List.idxOf_cons,show(a==o)=ρ by simpa using e];rfl
   rw[h8,List.set_cons_succ,ι,if_neg e,ih hn.2 ho' (fun q=>hx (List.mem_cons_of_mem _ q))]
theorem Cb {l:List D} {o x d:D} (hn:l.Nodup) (ho:o∈l) (hx:¬x∈l):d∈j4 l o x↔d=x∨(d≠o∧d∈l):=by
 rw[rJ hn ho hx,Α];constructor
 ·rintro⟨a,ha,rfl⟩
  by_cases e:a=o
  ·rw[if_pos e];exact .inl rfl
  ·rw[if_neg e];exact .inr ⟨e,ha⟩
 ·rintro (rfl|⟨h1,h2⟩)
  ·exact⟨o,ho,if_pos rfl⟩
  ·exact⟨d,h2,if_neg h1⟩
theorem xj {l:List D} {o x:D} (hn:l.Nodup) (ho:o∈l) (hx:¬x∈l):(j4 l o x).Nodup:=by
 rw[rJ hn ho hx,List.Nodup,Jbg];refine hn.imp_of_mem (fun {a b} ha hb s8=>?_)
 by_cases e1:a=o<;>by_cases e2:b=o
 ·exact absurd (e1.trans e2.symm) s8
 ·rw[if_pos e1,if_neg e2];exact fun q=>hx (q▸hb)
 ·rw[if_neg e1,if_pos e2];exact fun q=>hx (q▸ha)
 ·rw[if_neg e1,if_neg e2];exact s8
theorem yr {l:List D} {a x d:D} (hx:¬x∈l):d∈ja l a x↔d=x∨d∈l:=by
 unfold ja;rw[if_neg hx];obtain⟨j,gj⟩:=aB ((max (fC l a) 0).toNat+1);rw[gj,Jan,Η];have h:d∈l↔d∈l.take j∨d∈l.drop j:=by rw[←Jan,Jbf]
 rw[h];constructor
 ·rintro (h|h|h)
  ·exact .inr (.inl h)
  ·exact .inl h
  ·exact .inr (.inr h)
 ·rintro (h|h|h)
  ·exact .inr (.inl h)
  ·exact .inl h
  ·exact .inr (.inr h)
theorem wB {l:List D} {a x:D} (hn:l.Nodup) (hx:¬x∈l):(ja l a x).Nodup:=by
 unfold ja;rw[if_neg hx];obtain⟨j,gj⟩:=aB ((max (fC l a) 0).toNat+1);rw[gj];have h1:(l.take j++l.drop j).Nodup:=by rw[Jbf];exact hn
 rw[JaL] at h1 ⊢
 refine⟨h1.1,JaJ.2 ⟨fun q=>hx (List.mem_of_mem_drop q),h1.2.1⟩,fun p hp q hq e=>?_⟩
 rcases Η.1 hq with e2|hq
 ·exact hx (List.mem_of_mem_take (e2▸e▸hp))
 ·exact h1.2.2 p hp q hq e
theorem ky {V:List VS} {x:D} (h:bX V x=ρ) {v:VS} (hv:v∈V):¬x∈v.2.1:=fun q=>by
 have:=cn.2 ⟨v,hv,q⟩
 rw[h] at this;cases this
theorem yW.swp {V:List VS} (h:yW V) {o x:D} (ho:bX V o=τ) (hx:bX V x=ρ):yW (dL V o x)∧∀d,bX (dL V o x) d=τ↔d=x∨(d≠o∧bX V d=τ):=by
 obtain⟨u,hu,WW⟩:=cn.1 ho;have hn:=iJ h.once hu;have rE:=ky hx hu;unfold dL;rw[wI h.once hu WW,fI h.keys hu]
 refine⟨h.at_ (kS (xj hn WW rE)) (mV (xj hn WW rE)) (fun d hd v hv bj q=>?_),fun d=>?_⟩
 ·rcases (Cb hn WW rE).1 (jP.1 hd) with e|⟨-,h1⟩
  ·exact ky hx hv (e▸q)
  ·exact bj (by rw[dY h.once hv hu q h1])
 ·rw[Am h.keys hu rfl,jP,Cb hn WW rE,cn];constructor
  ·rintro ((h1|⟨h1,h2⟩)|⟨v,hv,bj,hd⟩)
   ·exact .inl h1
   ·exact .inr ⟨h1,u,hu,h2⟩
   ·exact .inr ⟨fun e=>bj (by rw[dY h.once hv hu hd (e▸WW)]),v,hv,hd⟩
  ·rintro (h1|⟨bj,v,hv,hd⟩)
   ·exact .inl (.inl h1)
   ·by_cases e:v.1=u.1
    ·exact .inl (.inr ⟨bj,by rw[←fi h.keys hv hu e];exact hd⟩)
    ·exact .inr ⟨v,hv,e,hd⟩
theorem yW.ins {V:List VS} (h:yW V) {c:Nm × D} {x:D} (hc:bu V c.1=τ) (hx:bX V x=ρ):yW (cO V c x)∧∀d,bX (cO V c x) d=τ↔d=x∨bX V d=τ:=by
 obtain⟨u,hu,hcu⟩:=db.1 hc;have hn:=iJ h.once hu;have rE:=ky hx hu;unfold cO;rw[←hcu,fI h.keys hu]
 refine⟨h.at_ (kS (wB hn rE)) (mV (wB hn rE)) (fun d hd v hv bj q=>?_),fun d=>?_⟩
 ·rcases (yr rE).1 (jP.1 hd) with e|h1
  ·exact ky hx hv (e▸q)
  ·exact bj (by rw[dY h.once hv hu q h1])
 ·rw[Am h.keys hu rfl,jP,yr rE,cn];constructor
  ·rintro ((h1|h2)|⟨v,hv,bj,hd⟩)
   ·exact .inl h1
   ·exact .inr ⟨u,hu,h2⟩
   ·exact .inr ⟨v,hv,hd⟩
  ·rintro (h1|⟨v,hv,hd⟩)
   ·exact .inl (.inl h1)
   ·by_cases e:v.1=u.1
    ·exact .inl (.inr (by rw[←fi h.keys hv hu e];exact hd))
    ·exact .inr ⟨v,hv,e,hd⟩
theorem mM {V W:List VS} (h:od (fun v:VS=>v.1) V) (e:W.map (·.1)=V.map (·.1)):od (fun v:VS=>v.1) W:=by
 unfold od at h ⊢;have h1:(V.map (·.1)).Pairwise (fun a b=>dW a b<0):=Jbg.2 h;rw[←e] at h1;exact Jbg.1 h1
theorem ik (V:List VS) (o x:D):(dL V o x).map (·.1)=V.map (·.1):=lI _ _ _
theorem xb (V:List VS) (x:D):(iU V x).map (·.1)=V.map (·.1):=lI _ _ _
theorem iw (V:List VS) (c:Nm × D) (x:D):(cO V c x).map (·.1)=V.map (·.1):=lI _ _ _
theorem tO {V W:List VS} (e:W.map (·.1)=V.map (·.1)) (x:Nm):bu W x=bu V x:=by
 have h:∀U:List VS,bu U x=(U.map (·.1)).any (fun k=>decide (k=x)):=fun U=>by
  unfold bu pf;rw[List.any_map];rfl
 rw[h,h,e]
theorem dx.mk_ {V:List VS} {E:List EC} {G:List Gn} (hv:od (fun v:VS=>v.1) V) (he:od (fun e:EC=>e.1) E) (hr:yW V) (hk:∀d,bX V d=τ→bI E (dI d)=τ∧(d.2.2=0∨d.2.2=1)) (hen:∀x,bI E x=τ→bX V (bh x 0)=τ∧bX V (bh x 1)=τ):dx (V,E,G):=
 ⟨hv,he,hr.once,hr.turned,fun v h d hd=>hk d (cn.2 ⟨v,h,hd⟩),fun e h=>hen e.1 (db.2 ⟨e,h,rfl⟩)⟩
theorem dx.std {S:SS} (h:dx S) {d:D} (hd:bX S.1 d=τ):bI S.2.1 (dI d)=τ∧(d.2.2=0∨d.2.2=1):=by
 obtain⟨v,hv,hd⟩:=cn.1 hd;exact h.known v hv d hd
theorem dx.end_ {S:SS} (h:dx S) {x:Nm} (hx:bI S.2.1 x=τ):bX S.1 (bh x 0)=τ∧bX S.1 (bh x 1)=τ:=by
 obtain⟨e,he,rfl⟩:=db.1 hx;exact h.ends e he
theorem dx.no_ {S:SS} (h:dx S) {d:D} (hx:bI S.2.1 (dI d)=ρ):bX S.1 d=ρ:=by
 cases hq:bX S.1 d with
 |false=>rfl
 |true=>have:=(h.std hq).1;rw[hx] at this;cases this
theorem nG {d:D} {x:Nm} {s:Int} (h1:dI d=x) (h2:d.2.2=s):d=bh x s:=by
 obtain⟨a,b,c⟩:=d;subst h1;subst h2;rfl
theorem pH {E:List EC} {x y:Nm}:bI (jX E x) y=τ↔y≠x∧bI E y=τ:=by
 unfold bI jX;rw[db,db];constructor
 ·rintro⟨e,he,rfl⟩;obtain⟨h1,h2⟩:=JaC.1 he;exact⟨of_decide_eq_true h2,e,h1,rfl⟩
 ·rintro⟨bj,e,he,rfl⟩;exact⟨e,JaC.2 ⟨he,decide_eq_true bj⟩,rfl⟩
theorem j5 {E:List EC} {e:EC} {y:Nm}:bI (gH E e) y=τ↔y=e.1∨bI E y=τ:=by
 unfold bI gH;rw[db,db];constructor
 ·rintro⟨u,hu,rfl⟩;rcases cy.1 hu with rfl|h
  ·exact .inl rfl
  ·exact .inr ⟨u,h,rfl⟩
 ·rintro (rfl|⟨u,hu,rfl⟩)
  ·exact⟨e,cy.2 (.inl rfl),rfl⟩
  ·exact⟨u,cy.2 (.inr hu),rfl⟩
theorem dx.unlink {S:SS} (h:dx S) {x:Nm} (hx:bI S.2.1 x=τ) (G:List Gn):dx (iU (iU S.1 (bh x 0)) (bh x 1),jX S.2.1 x,G):=by
 obtain⟨h0,h1⟩:=h.end_ hx;obtain⟨r1,m1⟩:=h.rg.rem h0
 have bj:bh x 1≠bh x 0:=fun e=>by
  have:(1:Int)=0:=congrArg (fun d:D=>d.2.2) e
  omega
 obtain⟨r2,m2⟩:=r1.rem ((m1 _).2 ⟨bj,h1⟩);refine dx.mk_ (mM h.vup (by rw[xb,xb])) (sF h.eup) r2 (fun d hd=>?_) (fun y hy=>?_)
 ·obtain⟨n1,hd⟩:=(m2 d).1 hd;obtain⟨n0,hd⟩:=(m1 d).1 hd;obtain⟨k1,k2⟩:=h.std hd
  refine⟨pH.2 ⟨fun e=>?_,k1⟩,k2⟩
  rcases k2 with k2|k2
  ·exact n0 (nG e k2)
  ·exact n1 (nG e k2)
 ·obtain⟨F6,hy⟩:=pH.1 hy;obtain⟨q0,q1⟩:=h.end_ hy;have ned:∀s t:Int,bh y s≠bh x t:=fun s t e=>F6 (congrArg dI e)
  exact⟨(m2 _).2 ⟨ned _ _,(m1 _).2 ⟨ned _ _,q0⟩⟩,(m2 _).2 ⟨ned _ _,(m1 _).2 ⟨ned _ _,q1⟩⟩⟩
theorem zz {α:Type} {k:α→Nm} (v:α):∀l:List α,(kq k l v).Perm (v::l)
 |[]=>List.Perm.refl _
 |u::l=>by
  rw[kq];split
  ·exact List.Perm.refl _
  ·exact((zz v l).cons u).trans (List.Perm.swap v u l)
theorem yW.new {V:List VS} (h:yW V) {x:Nm} {l:List D} {t:ByteArray × Int} (hx:bu V x=ρ) (hl:l.Nodup) (ht:aM l=l) (hd:∀d∈l,bX V d=ρ):
 yW (fx V (x,l,t))∧∀d,bX (fx V (x,l,t)) d=τ↔d∈l∨bX V d=τ:=by
 have hp:=zz (k:=fun v:VS=>v.1) (x,l,t) V
 refine⟨⟨?_,?_,fun v hv=>?_⟩,fun d=>?_⟩
 ·unfold fx;rw[(hp.map (·.1)).nodup_iff,ι,JaJ]
  refine⟨fun q=>?_,h.keys⟩
  obtain⟨v,hv,e⟩:=Α.1 q;exact gY.1 hx v hv e
 ·unfold fx;rw[(hp.flatMap_right _).nodup_iff,Jby,JaL]
  refine⟨hl,h.once,fun a ha b hb e=>?_⟩
  obtain⟨v,hv,Wc⟩:=List.mem_flatMap.1 hb;exact ky (hd a ha) hv (e▸Wc)
 ·rcases cy.1 hv with rfl|hv
  ·exact ht
  ·exact h.turned v hv
 ·rw[cn,cn];constructor
  ·rintro⟨v,hv,hd⟩;rcases cy.1 hv with rfl|hv
   ·exact .inl hd
   ·exact .inr ⟨v,hv,hd⟩
  ·rintro (hd|⟨v,hv,hd⟩)
   ·exact⟨_,cy.2 (.inl rfl),hd⟩
   ·exact⟨v,cy.2 (.inr hv),hd⟩
theorem vw {α β:Type} {f:α→List β} {p:α→Bool}:∀l:List α,((l.filter p).flatMap f).Sublist (l.flatMap f)
 |[]=>List.Sublist.refl _
 |a::l=>by
  rw[Jby]
  by_cases h:p a=τ
  ·rw[List.filter_cons_of_pos h,Jby];exact(List.Sublist.refl _).append (vw l)
  ·rw[List.filter_cons_of_neg h];exact(vw l).trans (List.sublist_append_right _ _)
theorem yW.cut {V:List VS} (h:yW V) {u:VS} (hu:u∈V):yW (dM V u.1)∧∀d,bX (dM V u.1) d=τ↔¬d∈u.2.1∧bX V d=τ:=by
 have hs:(dM V u.1).Sublist V:=List.filter_sublist
 refine⟨⟨(hs.map _).nodup h.keys,(vw _).nodup h.once,fun v hv=>h.turned v (hs.subset hv)⟩,fun d=>?_⟩
 rw[cn,cn];constructor
 ·rintro⟨v,hv,hd⟩;obtain⟨h1,h2⟩:=JaC.1 hv;exact⟨fun q=>of_decide_eq_true h2 (by rw[dY h.once h1 hu hd q]),v,h1,hd⟩
 ·rintro⟨hn,v,hv,hd⟩
  refine⟨v,JaC.2 ⟨hv,decide_eq_true (fun e=>hn ?_)⟩,hd⟩
  rw[←fi h.keys hv hu e];exact hd
theorem Oa {x y:Nm} (h:¬x=y) (s t:Int):¬bh x s=bh y t:=fun e=>h (congrArg dI e)
theorem kV {x:Nm} {s t:Int} (h:¬s=t):¬bh x s=bh x t:=fun e=>h (congrArg (fun d:D=>d.2.2) e)
theorem tD {a b:D} (h:¬a=b):[a,b].Nodup:=by simp[h]
theorem Mp {a b:D} (h:¬a=b):aM (aM [a,b])=aM [a,b]:=mV (tD h)
theorem Gv {V:List VS} {v:VS} (h:od (fun v:VS=>v.1) V) (hx:bu V v.1=ρ):od (fun v:VS=>v.1) (fx V v):=wC h (gY.1 hx)
theorem Dh {E:List EC} {e:EC} (h:od (fun e:EC=>e.1) E) (hx:bI E e.1=ρ):od (fun e:EC=>e.1) (gH E e):=wC h (gY.1 hx)
theorem dx.addV {S:SS} (h:dx S) {x:Nm} {t:ByteArray × Int} (hx:bu S.1 x=ρ):dx (fx S.1 (x,[],t),S.2):=by
 obtain⟨r,m⟩:=h.rg.new (l:=[]) (t:=t) hx List.nodup_nil rfl (fun d hd=>(by cases hd));have m':∀d,bX (fx S.1 (x,[],t)) d=τ↔bX S.1 d=τ:=fun d=>by rw[m d];simp
 exact dx.mk_ (E:=S.2.1) (G:=S.2.2) (Gv h.vup hx) h.eup r (fun d hd=>h.std ((m' d).1 hd)) (fun y hy=>⟨(m' _).2 (h.end_ hy).1,(m' _).2 (h.end_ hy).2⟩)
theorem dx.remV {S:SS} (h:dx S) {u:VS} (hu:u∈S.1) (hr:u.2.1=[]):dx (dM S.1 u.1,S.2):=by
 obtain⟨r,m⟩:=h.rg.cut hu;have m':∀d,bX (dM S.1 u.1) d=τ↔bX S.1 d=τ:=fun d=>by rw[m d,hr];simp
 exact dx.mk_ (E:=S.2.1) (G:=S.2.2) (sF h.vup) h.eup r (fun d hd=>h.std ((m' d).1 hd)) (fun y hy=>⟨(m' _).2 (h.end_ hy).1,(m' _).2 (h.end_ hy).2⟩)
theorem dx.link {S:SS} (h:dx S) {x:Nm} {a b:Nm × D} {t:ByteArray × Int} (hx:bI S.2.1 x=ρ) (ha:bu S.1 a.1=τ) (hb:bu S.1 b.1=τ) (G:List Gn):
 dx (cO (cO S.1 a (bh x 0)) b (bh x 1),gH S.2.1 (x,t),G):=by
 have h0:=h.no_ (d:=bh x 0) hx;have h1:=h.no_ (d:=bh x 1) hx;obtain⟨r1,m1⟩:=h.rg.ins ha h0
 have h1':bX (cO S.1 a (bh x 0)) (bh x 1)=ρ:=by
  cases hq:bX (cO S.1 a (bh x 0)) (bh x 1) with
  |false=>rfl
  |true=>
   rcases (m1 _).1 hq with e|e
   ·exact absurd e (kV (by decide))
   ·rw[h1] at e;cases e
 obtain⟨r2,m2⟩:=r1.ins (c:=b) (by rw[tO (iw _ _ _)];exact hb) h1';refine dx.mk_ (mM h.vup (by rw[iw,iw])) (Dh h.eup hx) r2 (fun d hd=>?_) (fun y hy=>?_)
 ·rcases (m2 d).1 hd with rfl|hd
  ·exact⟨j5.2 (.inl rfl),.inr rfl⟩
  ·rcases (m1 d).1 hd with rfl|hd
   ·exact⟨j5.2 (.inl rfl),.inl rfl⟩
   ·exact⟨j5.2 (.inr (h.std hd).1),(h.std hd).2⟩
 ·rcases j5.1 hy with rfl|hy
  ·exact⟨(m2 _).2 (.inr ((m1 _).2 (.inl rfl))),(m2 _).2 (.inl rfl)⟩
  ·exact⟨(m2 _).2 (.inr ((m1 _).2 (.inr (h.end_ hy).1))),(m2 _).2 (.inr ((m1 _).2 (.inr (h.end_ hy).2)))⟩
theorem dx.split {S:SS} (h:dx S) {x nw ot:Nm} {s t:Int} {p q:ByteArray × Int} (hx:bI S.2.1 x=τ) (hn:bu S.1 nw=ρ) (ho:bI S.2.1 ot=ρ) (hs:s=0∨s=1) (ht:t=0∨t=1) (G:List Gn):
 dx (fx (dL S.1 (bh x s) (bh ot (1 - t))) (nw,aM [bh x s,bh ot t],p),gH S.2.1 (ot,q),G):=by
 have bj:¬x=ot:=fun e=>by rw[e,ho] at hx;cases hx
 have hm:bX S.1 (bh x s)=τ:=by rcases hs with rfl|rfl;exact(h.end_ hx).1;exact(h.end_ hx).2
 have hk:∀r,bX S.1 (bh ot r)=ρ:=fun r=>h.no_ (d:=bh ot r) ho
 obtain⟨r1,m1⟩:=h.rg.swp hm (hk (1 - t))
 have h1:bX (dL S.1 (bh x s) (bh ot (1 - t))) (bh x s)=ρ:=by
  cases hq:bX (dL S.1 (bh x s) (bh ot (1 - t))) (bh x s) with
  |false=>rfl
  |true=>
   rcases (m1 _).1 hq with e|e
   ·exact absurd e (Oa bj _ _)
   ·exact absurd rfl e.1
 have h2:bX (dL S.1 (bh x s) (bh ot (1 - t))) (bh ot t)=ρ:=by
  cases hq:bX (dL S.1 (bh x s) (bh ot (1 - t))) (bh ot t) with
  |false=>rfl
  |true=>
   rcases (m1 _).1 hq with e|e
   ·exact absurd e (kV (by omega))
   ·rw[hk] at e;exact absurd e.2 (by decide)
 have Pn:¬bh x s=bh ot t:=Oa bj _ _
 obtain⟨r2,m2⟩:=r1.new (x:=nw) (l:=aM [bh x s,bh ot t]) (t:=p) (by rw[tO (ik _ _ _)];exact hn) (kS (tD Pn)) (Mp Pn) (fun d hd=>by
  have hd:=jP.1 hd;simp only[Η,Jbh,or_false] at hd;rcases hd with rfl|rfl
  ·exact h1
  ·exact h2)
 have m:∀d,bX (fx (dL S.1 (bh x s) (bh ot (1 - t))) (nw,aM [bh x s,bh ot t],p)) d=τ↔d=bh ot t∨d=bh ot (1 - t)∨bX S.1 d=τ:=fun d=>by
  rw[m2,jP,m1];simp only[Η,Jbh,or_false];constructor
  ·rintro ((e|e)|e|⟨-,e⟩)
   ·exact .inr (.inr (e▸hm))
   ·exact .inl e
   ·exact .inr (.inl e)
   ·exact .inr (.inr e)
  ·rintro (e|e|e)
   ·exact .inl (.inr e)
   ·exact .inr (.inl e)
   ·by_cases e2:d=bh x s
    ·exact .inl (.inl e2)
    ·exact .inr (.inr ⟨e2,e⟩)
 refine dx.mk_ (Gv (mM h.vup (ik _ _ _)) (by rw[tO (ik _ _ _)];exact hn)) (Dh h.eup ho) r2 (fun d hd=>?_) (fun y hy=>?_)
 ·rcases (m d).1 hd with rfl|rfl|hd
  ·exact⟨j5.2 (.inl rfl),ht⟩
  ·exact⟨j5.2 (.inl rfl),by show 1 - t=0∨1 - t=1;omega⟩
  ·exact⟨j5.2 (.inr (h.std hd).1),(h.std hd).2⟩
 ·rcases j5.1 hy with e9|hy
  ·have e9:y=ot:=e9;rw[e9]
   have e:∀r:Int,r=0∨r=1→bX (fx (dL S.1 (bh x s) (bh ot (1 - t))) (nw,aM [bh x s,bh ot t],p)) (bh ot r)=τ:=fun r hr=>(m _).2 (by
    by_cases e:r=t
    ·exact .inl (by rw[e])
    ·exact .inr (.inl (by rw[show r=1 - t by omega])))
   exact⟨e 0 (.inl rfl),e 1 (.inr rfl)⟩
  ·exact⟨(m _).2 (.inr (.inr (h.end_ hy).1)),(m _).2 (.inr (.inr (h.end_ hy).2))⟩
theorem mB {l:List D} {ot:Nm} {a b:D} (h:jn l ot=ζ (a,b)):(l=[a,b]∨l=[b,a])∧¬dI a=dI b∧dI b=ot:=by
 unfold jn at h;split at h
 ·rename_i p q;split at h
  ·cases h
  ·rename_i bj;split at h
   ·rename_i e;simp only[Jae.injEq,Jba] at h;obtain⟨rfl,rfl⟩:=h;exact⟨.inr rfl,fun q=>bj q.symm,e⟩
   ·split at h
    ·rename_i e;simp only[Jae.injEq,Jba] at h;obtain⟨rfl,rfl⟩:=h;exact⟨.inl rfl,bj,e⟩
    ·cases h
 ·cases h
theorem dx.smooth {S:SS} (h:dx S) {u:VS} (hu:u∈S.1) {ot:Nm} {a b:D} (hm:jn u.2.1 ot=ζ (a,b)) (G:List Gn):
 dx (dL (dM S.1 u.1) (b.1,b.2.1,1 - b.2.2) a,jX S.2.1 ot,G):=by
 obtain⟨hl,bj,hb⟩:=mB hm;have eE:∀d,d∈u.2.1↔d=a∨d=b:=fun d=>by rcases hl with e|e<;>rw[e]<;>simp[or_comm]
 have sa:bX S.1 a=τ:=cn.2 ⟨u,hu,(eE a).2 (.inl rfl)⟩;have sb:bX S.1 b=τ:=cn.2 ⟨u,hu,(eE b).2 (.inr rfl)⟩;obtain⟨kb,tb⟩:=h.std sb;rw[hb] at kb;have ef:((b.1,b.2.1,1 - b.2.2):D)=bh ot (1 - b.2.2):=by rw[←hb];rfl
 have eb:b=bh ot b.2.2:=nG hb rfl;have hao:¬dI a=ot:=fun e=>bj (e.trans hb.symm)
 rw[ef];obtain⟨r1,m1⟩:=h.rg.cut hu;have hfa:¬bh ot (1 - b.2.2)=a:=fun e=>hao (by rw[←e];rfl)
 have hfb:¬bh ot (1 - b.2.2)=b:=fun e=>by
  have:(1:Int) - b.2.2=b.2.2:=congrArg (fun d:D=>d.2.2) e
  omega
 have sf:bX S.1 (bh ot (1 - b.2.2))=τ:=by
  rcases tb with e|e<;>rw[e]
  ·exact(h.end_ kb).2
  ·exact(h.end_ kb).1
 have c1:bX (dM S.1 u.1) (bh ot (1 - b.2.2))=τ:=(m1 _).2 ⟨fun q=>by rcases (eE _).1 q with e|e;exact hfa e;exact hfb e,sf⟩
 have c2:bX (dM S.1 u.1) a=ρ:=by
  cases hq:bX (dM S.1 u.1) a with
  |false=>rfl
  |true=>exact absurd ((eE a).2 (.inl rfl)) ((m1 _).1 hq).1
 obtain⟨r2,m2⟩:=r1.swp c1 c2
 have m:∀d,bX (dL (dM S.1 u.1) (bh ot (1 - b.2.2)) a) d=τ↔bX S.1 d=τ∧¬dI d=ot:=fun d=>by
  rw[m2,m1,eE];constructor
  ·rintro (e|⟨e1,e2,e3⟩)
   ·rw[e];exact⟨sa,hao⟩
   ·refine⟨e3,fun q=>?_⟩
    have hs:=(h.std e3).2
    by_cases q2:d.2.2=b.2.2
    ·exact e2 (.inr (by rw[eb];exact nG q q2))
    ·exact e1 (nG q (by omega))
  ·rintro⟨e1,e2⟩
   by_cases e:d=a
   ·exact .inl e
   ·exact .inr ⟨fun q=>e2 (by rw[q];rfl),fun q=>by rcases q with q|q;exact e q;exact e2 (by rw[q];exact hb),e1⟩
 refine dx.mk_ (mM (sF h.vup) (ik _ _ _)) (sF h.eup) r2 (fun d hd=>?_) (fun y hy=>?_)
 ·obtain⟨e1,e2⟩:=(m d).1 hd;exact⟨pH.2 ⟨e2,(h.std e1).1⟩,(h.std e1).2⟩
 ·obtain⟨e1,e2⟩:=pH.1 hy;exact⟨(m _).2 ⟨(h.end_ e2).1,e1⟩,(m _).2 ⟨(h.end_ e2).2,e1⟩⟩
section
variable {α:Type} {k:α→Nm}
def dX (k:α→Nm) (l:List α) (x:Nm):Int:=if pf k l x=τ then(l.findIdx (fun v=>decide (k v=x)):Int) else -1
theorem dH {l:List α} {x:Nm} (h:pf k l x=ρ):dX k l x= -1:=by unfold dX;rw[h];rfl
theorem ck {l:List α} {x:Nm} (h:pf k l x=τ):∃(i:Nat) (v:α),dX k l x=(i:Int)∧l[i]? =ζ v∧k v=x∧i<l.length:=by
 obtain⟨v,hv,e⟩:=db.1 h;have hi:l.findIdx (fun v=>decide (k v=x))<l.length:=List.findIdx_lt_length_of_exists ⟨v,hv,decide_eq_true e⟩
 refine⟨_,l[l.findIdx (fun v=>decide (k v=x))],by unfold dX;rw[if_pos h],θ hi,?_,hi⟩
 exact of_decide_eq_true (List.findIdx_getElem (w:=hi))
theorem Is {l:List α} {x:Nm} {i:Nat} {v:α} (hv:l[i]? =ζ v) (e:k v=x) (hn:∀t u,l[t]? =ζ u→t<i→¬k u=x):dX k l x=(i:Int):=by
 have h:pf k l x=τ:=db.2 ⟨v,List.mem_of_getElem? hv,e⟩;obtain⟨hi,ZJ⟩:=List.getElem?_eq_some_iff.1 hv;unfold dX;rw[if_pos h,(List.findIdx_eq hi).2 ⟨by rw[ZJ];exact decide_eq_true e,fun j hj=>decide_eq_false (hn j _ (θ (by omega)) hj)⟩]
end
theorem SO (Vs:List VC) (x:D):lE Vs x=(D4 (Vs.map vS) x,bX (Vs.map vS) x):=by
 induction Vs with
 |nil=>rfl
 |cons v Vs ih=>
  by_cases h:x∈v.2.1.2.2.2
  ·have e1:lE (v::Vs) x=(v.1,τ):=by unfold lE;rw[List.find?_cons_of_pos (by exact decide_eq_true h)]
   have e2:D4 ((v::Vs).map vS) x=v.1:=by unfold D4;rw[ι,List.find?_cons_of_pos (by exact decide_eq_true h)];rfl
   have e3:bX ((v::Vs).map vS) x=τ:=cn.2 ⟨vS v,by simp,h⟩;rw[e1,e2,e3]
  ·have e1:lE (v::Vs) x=lE Vs x:=by unfold lE;rw[List.find?_cons_of_neg (by simpa using h)]
   have e2:D4 ((v::Vs).map vS) x=D4 (Vs.map vS) x:=by unfold D4;rw[ι,List.find?_cons_of_neg (by show ¬decide (x∈v.2.1.2.2.2)=τ;simpa using h)]
   have e3:bX ((v::Vs).map vS) x=bX (Vs.map vS) x:=by
    unfold bX;rw[ι,List.any_cons]
    show(decide (x∈v.2.1.2.2.2)||_)=_
    rw[decide_eq_false h];rfl
   rw[e1,e2,e3,ih]
theorem YJ (Vs:List VC):xW Vs=bX (Vs.map vS):=funext (fun x=>by unfold xW;rw[SO])
theorem tK (Vs:List VC) (x:Nm):(eP Vs x).2=bu (Vs.map vS) x∧(eP Vs x).1.2.1.2.2.2=eS (Vs.map vS) x:=by
 induction Vs with
 |nil=>exact⟨rfl,rfl⟩
 |cons v Vs ih=>
  by_cases h:v.1=x
  ·have e1:eP (v::Vs) x=(v,τ):=sE _ _ _ _ _ h;have e2:eS ((v::Vs).map vS) x=v.2.1.2.2.2:=by unfold eS;rw[ι,List.find?_cons_of_pos (by exact decide_eq_true h)];rfl
   have e3:bu ((v::Vs).map vS) x=τ:=db.2 ⟨vS v,by simp,h⟩;rw[e1,e2,e3];exact⟨rfl,rfl⟩
  ·have e1:eP (v::Vs) x=eP Vs x:=wP _ _ _ _ _ h;have e2:eS ((v::Vs).map vS) x=eS (Vs.map vS) x:=by unfold eS;rw[ι,List.find?_cons_of_neg (by show ¬decide (v.1=x)=τ;simpa using h)]
   have e3:bu ((v::Vs).map vS) x=bu (Vs.map vS) x:=by
    unfold bu pf;rw[ι,List.any_cons]
    show(decide (v.1=x)||_)=_
    rw[decide_eq_false h];rfl
   rw[e1,e2,e3];exact ih
theorem iB (Vs:List VC):(Vs.map vS).map (·.1)=Vs.map (·.1):=by rw[List.map_map];rfl
theorem Qq (Vs:List VC):(Vs.map vS).flatMap (fun v=>v.2.1)=Vs.flatMap (fun v=>v.2.1.2.2.2):=by rw[List.flatMap_map];rfl
theorem Ly (bx:Nat) (x1 x2:Int) (v:VC) (w:ο) (h:Whole w bx 30 [J x1,J x2]):Ζ η 134 #[φ (vC v).toArray,υ (ζ ⟨bx,0,ε⟩)] w fun e w'=>e=.returned (Β (decide (v.1=(x1,x2))))∧σ w.heap.size w w':=by
 obtain⟨⟨i1,i2⟩,⟨rA,rn,rc,rL⟩,lb,at_⟩:=v;show Ζ η 134 #[φ #[J i1,J i2,γ rA rn rc,μ lb,J at_],υ (ζ ⟨bx,0,ε⟩)] w fun e w'=>e=.returned (Β (decide ((i1,i2)=(x1,x2))))∧σ w.heap.size w w'
 have hx:=h.al (δ #[J i1,J i2,γ rA rn rc,μ lb,J at_] 59);have c0:=hx.cell (i:=0) rfl;have c1:=hx.cell (i:=1) rfl;have hB:=qh (az w (δ #[J i1,J i2,γ rA rn rc,μ lb,J at_] 59));clear h hx
 by_cases h1:i1=x1
 ·subst h1
  by_cases h2:i2=x2
  ·subst h2;go_enter Tryz.func134,Tryz.ntmps134;go_wp2;go_ret;exact⟨by simp,hB.out⟩
  ·go_enter Tryz.func134,Tryz.ntmps134;go_wp2;go_ret;exact⟨by simp[h2],hB.out⟩
 ·go_enter Tryz.func134,Tryz.ntmps134;go_wp2;go_ret;exact⟨by simp[h1],hB.out⟩
theorem JI (A:Option Κ) (n c bx:Nat) (x1 x2:Int) (Vs:List VC) (w:ο) (h:bg w w.heap.size 5 A n c (ah vC Vs)) (hx:Whole w bx 30 [J x1,J x2]) (hn:n≤1000000):
 Ζ η 133 #[γ A n c,.func (.func 134) #[] #[υ (ζ ⟨bx,0,ε⟩)]] w fun e w'=>e=.returned (J (dX (fun v:VC=>v.1) Vs (x1,x2)))∧σ w.heap.size w w':=by
 have H:=qh h;have HX:=qh hx;have Hl:=qh (h.rlen aS (by decide));have he:M8 134:=nH Tryz.func134 (by kernel_rfl) rfl;clear h hx;go_enter Tryz.func133,Tryz.ntmps133;go_wp2;go_loopw [8] (fun i wr=>∃k:Nat,k≤n∧i=J (k:Int)∧Hid (∀t u,Vs[t]? =ζ u→t<k→¬u.1=(x1,x2))∧Hid (σ w.heap.size w wr)) (fun i _=>n - (intOf i).toNat)
 case atStart=>exact⟨0,Jas _,rfl,qh (fun t u _ h=>absurd h (Nat.not_lt_zero t)),qh (Θ _ _)⟩
 case round=>
  obtain⟨k,hk,rfl,HN,HB⟩:=hrel;obtain⟨wo,cS⟩:=aB wr;rw[cS] at HB ⊢;clear cS
  by_cases dz:k<n
  ·obtain⟨v,hv⟩:∃v,Vs[k]? =ζ v:=⟨_,θ (by have:=Hl.out;omega)⟩
   have hR:=H.out.bl HB.out;obtain⟨b,off,rfl,aY,a8⟩:=hR.place aS (by decide) (by omega);have hp:=a8 k v hv;have HV:=qh hv;have RG:(k:Int)<(n:Int):=by omega
   have HC:=qh (Ly bx x1 x2 v wo (HX.out.bl HB.out))
   have Hn1:Hid (¬v.1=(x1,x2)→∀t u,Vs[t]? =ζ u→t<k+1→¬u.1=(x1,x2)):=qh (fun bj t u ht dz=>by
    rcases JaM t k with h1|h1
    ·exact HN.out t u ht h1
    ·obtain rfl:t=k:=by omega
     rw[HV.out] at ht;obtain rfl:=Μ ht;exact bj)
   have Hy1:Hid (v.1=(x1,x2)→dX (fun v:VC=>v.1) Vs (x1,x2)=(k:Int)):=qh (fun e=>Is HV.out e (fun t u ht dz=>HN.out t u ht dz));obtain⟨dd,Ur⟩:=aB (decide (v.1=(x1,x2)));rw[Ur] at HC;have Hd:=qh Ur;clear Ur hv a8 aY hR;obtain⟨⟨i1,i2⟩,⟨rA,rn,rc,rL⟩,lb,at_⟩:=v;have HC:Hid (Ζ η 134 #[φ #[J i1,J i2,γ rA rn rc,μ lb,J at_],υ (ζ ⟨bx,0,ε⟩)] wo fun e w'=>e=.returned (Β dd)∧σ wo.heap.size wo w'):=HC;have l0:=hp 0 _ rfl;have l1:=hp 1 _ rfl;have l2:=hp 2 _ rfl;have l3:=hp 3 _ rfl;have l4:=hp 4 _ rfl;simp only[Ν,Jac] at l0 l1 l2 l3 l4;clear hp;cases dd with
   |true=>
    have Hy:=qh (Hy1.out (of_decide_eq_true Hd.out))
    go_wp2_with (first
     |(go_at_call 134
       refine HC.out.mono ?_;rintro e w3 ⟨rfl,bA⟩;have bB:=qh (ag HB.out bA);clear bA))
    go_ret;rw[Hy.out];exact⟨rfl,bB.out⟩
   |false=>
    have Hn:=qh (Hn1.out (of_decide_eq_false Hd.out))
    go_wp2_with (first
     |(go_at_call 134
       refine HC.out.mono ?_;rintro e w3 ⟨rfl,bA⟩;have bB:=qh (ag HB.out bA);clear bA))
    go_roundw
    case rel=>exact⟨k+1,by omega,by go_num,Hn,bB⟩
    case measure=>simp[intOf];omega
  ·obtain rfl:k=n:=by omega
   have Kx:¬(k:Int)<(k:Int):=by omega
   have Hno:Hid (dX (fun v:VC=>v.1) Vs (x1,x2)= -1):=qh (dH (gY.2 (fun u hu=>by
    obtain⟨t,ht,e⟩:=Jbv hu;exact HN.out t u (by rw[θ ht,e]) (by have:=Hl.out;omega))))
   go_wp2;go_ret;rw[Hno.out];exact⟨rfl,HB.out⟩
theorem Mr (bx:Nat) (x1 x2:Int) (v:EC) (w:ο) (h:Whole w bx 30 [J x1,J x2]):Ζ η 141 #[φ (eC v).toArray,υ (ζ ⟨bx,0,ε⟩)] w fun e w'=>e=.returned (Β (decide (v.1=(x1,x2))))∧σ w.heap.size w w':=by
 obtain⟨⟨i1,i2⟩,lb,at_⟩:=v;show Ζ η 141 #[φ #[J i1,J i2,μ lb,J at_],υ (ζ ⟨bx,0,ε⟩)] w fun e w'=>e=.returned (Β (decide ((i1,i2)=(x1,x2))))∧σ w.heap.size w w'
 have hx:=h.al (δ #[J i1,J i2,μ lb,J at_] 67);have c0:=hx.cell (i:=0) rfl;have c1:=hx.cell (i:=1) rfl;have hB:=qh (az w (δ #[J i1,J i2,μ lb,J at_] 67));clear h hx
 by_cases h1:i1=x1
 ·subst h1
  by_cases h2:i2=x2
  ·subst h2;go_enter Tryz.func141,Tryz.ntmps141;go_wp2;go_ret;exact⟨by simp,hB.out⟩
  ·go_enter Tryz.func141,Tryz.ntmps141;go_wp2;go_ret;exact⟨by simp[h2],hB.out⟩
 ·go_enter Tryz.func141,Tryz.ntmps141;go_wp2;go_ret;exact⟨by simp[h1],hB.out⟩
theorem IS (A:Option Κ) (n c bx:Nat) (x1 x2:Int) (Vs:List EC) (w:ο) (h:bg w w.heap.size 4 A n c (ah eC Vs)) (hx:Whole w bx 30 [J x1,J x2]) (hn:n≤1000000):
 Ζ η 140 #[γ A n c,.func (.func 141) #[] #[υ (ζ ⟨bx,0,ε⟩)]] w fun e w'=>e=.returned (J (dX (fun v:EC=>v.1) Vs (x1,x2)))∧σ w.heap.size w w':=by
 have H:=qh h;have HX:=qh hx;have Hl:=qh (h.rlen bM (by decide));have he:M8 141:=nH Tryz.func141 (by kernel_rfl) rfl;clear h hx;go_enter Tryz.func140,Tryz.ntmps140;go_wp2;go_loopw [8] (fun i wr=>∃k:Nat,k≤n∧i=J (k:Int)∧Hid (∀t u,Vs[t]? =ζ u→t<k→¬u.1=(x1,x2))∧Hid (σ w.heap.size w wr)) (fun i _=>n - (intOf i).toNat)
 case atStart=>exact⟨0,Jas _,rfl,qh (fun t u _ h=>absurd h (Nat.not_lt_zero t)),qh (Θ _ _)⟩
 case round=>
  obtain⟨k,hk,rfl,HN,HB⟩:=hrel;obtain⟨wo,cS⟩:=aB wr;rw[cS] at HB ⊢;clear cS
  by_cases dz:k<n
  ·obtain⟨v,hv⟩:∃v,Vs[k]? =ζ v:=⟨_,θ (by have:=Hl.out;omega)⟩
   have hR:=H.out.bl HB.out;obtain⟨b,off,rfl,aY,a8⟩:=hR.place bM (by decide) (by omega);have hp:=a8 k v hv;have HV:=qh hv;have RG:(k:Int)<(n:Int):=by omega
   have HC:=qh (Mr bx x1 x2 v wo (HX.out.bl HB.out))
   have Hn1:Hid (¬v.1=(x1,x2)→∀t u,Vs[t]? =ζ u→t<k+1→¬u.1=(x1,x2)):=qh (fun bj t u ht dz=>by
    rcases JaM t k with h1|h1
    ·exact HN.out t u ht h1
    ·obtain rfl:t=k:=by omega
     rw[HV.out] at ht;obtain rfl:=Μ ht;exact bj)
   have Hy1:Hid (v.1=(x1,x2)→dX (fun v:EC=>v.1) Vs (x1,x2)=(k:Int)):=qh (fun e=>Is HV.out e (fun t u ht dz=>HN.out t u ht dz));obtain⟨dd,Ur⟩:=aB (decide (v.1=(x1,x2)));rw[Ur] at HC;have Hd:=qh Ur;clear Ur hv a8 aY hR;obtain⟨⟨i1,i2⟩,lb,at_⟩:=v;have HC:Hid (Ζ η 141 #[φ #[J i1,J i2,μ lb,J at_],υ (ζ ⟨bx,0,ε⟩)] wo fun e w'=>e=.returned (Β dd)∧σ wo.heap.size wo w'):=HC;have l0:=hp 0 _ rfl;have l1:=hp 1 _ rfl;have l2:=hp 2 _ rfl;have l3:=hp 3 _ rfl;simp only[Ν,Jac] at l0 l1 l2 l3;clear hp;cases dd with
   |true=>
    have Hy:=qh (Hy1.out (of_decide_eq_true Hd.out))
    go_wp2_with (first
     |(go_at_call 141
       refine HC.out.mono ?_;rintro e w3 ⟨rfl,bA⟩;have bB:=qh (ag HB.out bA);clear bA))
    go_ret;rw[Hy.out];exact⟨rfl,bB.out⟩
   |false=>
    have Hn:=qh (Hn1.out (of_decide_eq_false Hd.out))
    go_wp2_with (first
     |(go_at_call 141
       refine HC.out.mono ?_;rintro e w3 ⟨rfl,bA⟩;have bB:=qh (ag HB.out bA);clear bA))
    go_roundw
    case rel=>exact⟨k+1,by omega,by go_num,Hn,bB⟩
    case measure=>simp[intOf];omega
  ·obtain rfl:k=n:=by omega
   have Kx:¬(k:Int)<(k:Int):=by omega
   have Hno:Hid (dX (fun v:EC=>v.1) Vs (x1,x2)= -1):=qh (dH (gY.2 (fun u hu=>by
    obtain⟨t,ht,e⟩:=Jbv hu;exact HN.out t u (by rw[θ ht,e]) (by have:=Hl.out;omega))))
   go_wp2;go_ret;rw[Hno.out];exact⟨rfl,HB.out⟩
theorem fB (g:Nat) (A:Option Κ) (n c:Nat) (B:Option Κ) (m k:Nat) (C:Option Κ) (r rc:Nat) (x1 x2:Int) (L:List VC) (w:ο) (hg:Whole w g 28 [γ A n c,γ B m k,γ C r rc]) (h:bg w w.heap.size 5 A n c (ah vC L)) (hn:n≤1000000):
 Ζ η 110 #[υ (ζ ⟨g,0,ε⟩),φ #[J x1,J x2]] w fun e w'=>e=.returned (J (dX (fun v:VC=>v.1) L (x1,x2)))∧σ w.heap.size w w':=by
 have hx:Whole (w.alloc (δ #[J x1,J x2] 30)) w.heap.size 30 [J x1,J x2]:=Whole.new_ _ _ [_,_];have hb:=az w (δ #[J x1,J x2] 30);have hG:=hg.al (δ #[J x1,J x2] 30);have HI:=qh (JI _ _ _ _ x1 x2 L _ (h.bl hb) hx hn);have HB:=qh hb;have c0:=hG.cell (i:=0) rfl;clear hx hb hG hg h;go_enter Tryz.func110,Tryz.ntmps110
 go_wp2_with (first
  |(go_at_call 133
    refine HI.out.mono ?_;rintro e w3 ⟨rfl,bA⟩;have bB:=qh (ag HB.out bA);clear bA))
 go_ret;exact⟨rfl,bB.out⟩
theorem dG (g:Nat) (A:Option Κ) (n c:Nat) (B:Option Κ) (m k:Nat) (C:Option Κ) (r rc:Nat) (x1 x2:Int) (L:List EC) (w:ο) (hg:Whole w g 28 [γ A n c,γ B m k,γ C r rc]) (h:bg w w.heap.size 4 B m k (ah eC L)) (hn:m≤1000000):
 Ζ η 113 #[υ (ζ ⟨g,0,ε⟩),φ #[J x1,J x2]] w fun e w'=>e=.returned (J (dX (fun v:EC=>v.1) L (x1,x2)))∧σ w.heap.size w w':=by
 have hx:Whole (w.alloc (δ #[J x1,J x2] 30)) w.heap.size 30 [J x1,J x2]:=Whole.new_ _ _ [_,_];have hb:=az w (δ #[J x1,J x2] 30);have hG:=hg.al (δ #[J x1,J x2] 30);have HI:=qh (IS _ _ _ _ x1 x2 L _ (h.bl hb) hx hn);have HB:=qh hb;have c0:=hG.cell (i:=1) rfl;clear hx hb hG hg h;go_enter Tryz.func113,Tryz.ntmps113
 go_wp2_with (first
  |(go_at_call 140
    refine HI.out.mono ?_;rintro e w3 ⟨rfl,bA⟩;have bB:=qh (ag HB.out bA);clear bA))
 go_ret;exact⟨rfl,bB.out⟩
theorem Dy (v:VC) (x1 x2:Int) (w:ο):Ζ η 136 #[φ (vC v).toArray,φ #[J x1,J x2]] w fun e w'=>e=.returned (J (dW v.1 (x1,x2)))∧σ w.heap.size w w':=by
 have HO:=qh (tA v.1.1 v.1.2 x1 x2);obtain⟨o,go⟩:=aB (dW v.1 (x1,x2));have HO:Hid (∀w,Ζ η 137 #[φ #[J v.1.1,J v.1.2],φ #[J x1,J x2]] w fun e w'=>e=.returned (J o)∧σ w.heap.size w w'):=qh (by rw[←go];exact HO.out);rw[go];clear go;obtain⟨⟨i1,i2⟩,⟨rA,rn,rc,rL⟩,lb,at_⟩:=v;show Ζ η 136 #[φ #[J i1,J i2,γ rA rn rc,μ lb,J at_],φ #[J x1,J x2]] w _;have HO:Hid (∀w,Ζ η 137 #[φ #[J i1,J i2],φ #[J x1,J x2]] w fun e w'=>e=.returned (J o)∧σ w.heap.size w w'):=HO;go_enter Tryz.func136,Tryz.ntmps136
 go_wp2_with (first
  |(go_at_call 137
    refine(HO.out _).mono ?_
    rintro e w2 ⟨rfl,hb⟩;have HB:=qh (ag (aI (az w (δ #[J i1,J i2,γ rA rn rc,μ lb,J at_] 59)) (δ #[J x1,J x2] 30)) hb);clear hb))
 go_ret;exact⟨rfl,HB.out⟩
theorem Q9 (A:Option Κ) (n c:Nat) (G:List VC) (x1 x2:Int) (w:ο) (h:bg w w.heap.size 5 A n c (ah vC G)) (hn:n≤1000000) (cf:Nat→Int) (IC:∀t x,G[t]? =ζ x→dW x.1 (x1,x2)=cf t) (ku:∀a b,a≤b→b<n→cf b<0→cf a<0):
 Ζ η 135 #[γ A n c,φ #[J x1,J x2],.func (.func 136) #[] #[]] w fun e w'=>∃i:Nat,i≤n∧(∀t,t<i→cf t<0)∧(∀t,i≤t→t<n→0≤cf t)∧e=.returned (.tuple #[J (i:Int),Β (decide (i<n) && decide (cf i=0))])∧σ w.heap.size w w':=by
 have H:=qh h;have Hl:=qh (h.rlen aS (by decide));have HM:=qh ku;have he:M8 136:=nH Tryz.func136 (by kernel_rfl) rfl;clear h ku;go_enter Tryz.func135,Tryz.ntmps135;go_wp2;have lQ:=Whole.new_ w 30 [J x1,J x2];have oI:=az w (δ #[J x1,J x2] 30);obtain⟨W0,bO⟩:=aB (w.alloc (δ #[J x1,J x2] 30));replace lQ:Whole W0 w.heap.size 30 [J x1,J x2]:=bO▸lQ;rw[bO] at oI ⊢;obtain⟨b0,bp⟩:=aB w.heap.size;rw[bp] at lQ ⊢;have aQ:=qh lQ;have bw:=qh oI;clear bO bp lQ oI;go_loopw [9,10] (fun s9 Ni wr=>∃lo hi:Nat,s9=J lo∧Ni=J hi∧lo≤hi∧hi≤n∧Hid (Whole wr b0 30 [J x1,J x2])∧Hid (σ w.heap.size w wr)∧Hid ((∀t,t<lo→cf t<0)∧(∀t,hi≤t→t<n→0≤cf t))) (fun s9 Ni _=>(intOf Ni).toNat - (intOf s9).toNat)
 case atStart=>exact⟨0,n,rfl,rfl,Jas _,Nat.le_refl _,aQ,bw,qh ⟨fun t ht=>absurd ht (Nat.not_lt_zero _),fun t h1 h2=>by omega⟩⟩
 case round=>
  clear aQ bw;obtain⟨lo,hi,rfl,rfl,hlh,jm,HX,HB,HI⟩:=hrel;obtain⟨wo,cS⟩:=aB wr;rw[cS] at HX HB ⊢;clear cS
  by_cases dz:lo<hi
  ·obtain⟨m,gm⟩:=aB ((lo+hi) / 2);have KZ:lo≤m:=by omega
   have O0:m<hi:=by omega
   have hmn:m<n:=by omega
   have e1:((lo:Int)+(hi:Int)) / 2=(m:Int):=by omega
   obtain⟨x,hx⟩:∃x,G[m]? =ζ x:=⟨_,θ (by have:=Hl.out;omega)⟩
   obtain⟨b,off,rfl,aY,a8⟩:=H.out.place aS (by decide) (by omega);have bC:=HB.out;have wz:=IC m x hx;have uB:=Dy x x1 x2;have hp:=a8 m x hx;obtain⟨ov,tJ⟩:=aB (dW x.1 (x1,x2));rw[tJ] at wz uB;obtain⟨⟨i1,i2⟩,⟨rA,rn,rc,rL⟩,lb,at_⟩:=x;have q0:=hp 0 _ rfl;have q1:=hp 1 _ rfl;have q2:=hp 2 _ rfl;have q3:=hp 3 _ rfl;have q4:=hp 4 _ rfl;simp only[Ν,Jac] at q0 q1 q2 q3 q4;have l0:=(bC.cell (p:=⟨b,off+m*5,ε⟩) aY).trans q0;have l1:=(bC.cell (p:=⟨b,off+m*5+1,ε⟩) aY).trans q1;have l2:=(bC.cell (p:=⟨b,off+m*5+2,ε⟩) aY).trans q2;have l3:=(bC.cell (p:=⟨b,off+m*5+3,ε⟩) aY).trans q3;have l4:=(bC.cell (p:=⟨b,off+m*5+4,ε⟩) aY).trans q4;have HC:Hid (∀w',Ζ η 136 #[φ #[J i1,J i2,γ rA rn rc,μ lb,J at_],φ #[J x1,J x2]] w' fun e bW=>e=.returned (J ov)∧σ w'.heap.size w' bW):=qh uB;have yF:Hid (ov=cf m):=qh wz;clear hx a8 hp aY bC q0 q1 q2 q3 q4 wz tJ uB;go_upto_region 5 with fail
   have fL:=cz l0;have ld1:=cz l1;have ka:=cz l2;have pV:=cz l3;have tX:=cz l4;have s6:=cm (i:=0) HX.out rfl;have sX:=cm (i:=1) HX.out rfl;clear l0 l1 l2 l3 l4
   by_cases py:ov<0
   ·have hq:decide (ov<0)=τ:=decide_eq_true py;have oF:Hid ((∀t,t<m+1→cf t<0)∧(∀t,hi≤t→t<n→0≤cf t)):=qh ⟨fun t ht=>HM.out t m (by omega) (by omega) (by rw[←yF.out];exact py),HI.out.2⟩;clear py HI yF;refine ay (aO) (by kernel_rfl) ?_;refine aa 0 ?_;refine aa 1 ?_;refine aa 2 ?_;refine aa 3 ?_;refine aa 4 ?_;refine aa 5 ?_;refine cV 6 (hy:=by apply bP;rfl;rotate_left;intro w' aC;exact HC.out w';intro w';go_simp) (h:=?_);refine aa 7 ?_;refine aF (by kernel_rfl) ?_ _;intro W3 du;have bB:=qh (ag (aN HB.out) du);have cF:=qh (HX.out.dr.bl du);clear du HB HX fL ld1 ka pV tX s6 sX HC;go_wp2;go_roundw
    case rel=>exact⟨m+1,hi,by go_num,rfl,by omega,jm,cF,bB,oF⟩
    case measure=>simp[intOf];omega
   ·have hq:decide (ov<0)=ρ:=decide_eq_false py;have oF:Hid ((∀t,t<lo→cf t<0)∧(∀t,m≤t→t<n→0≤cf t)):=qh ⟨HI.out.1,fun t ht Oz=>Int.not_lt.1 fun h=>by have:=HM.out m t ht Oz h;rw[←yF.out] at this;omega⟩;clear py HI yF;refine ay (aO) (by kernel_rfl) ?_;refine aa 0 ?_;refine aa 1 ?_;refine aa 2 ?_;refine aa 3 ?_;refine aa 4 ?_;refine aa 5 ?_;refine cV 6 (hy:=by apply bP;rfl;rotate_left;intro w' aC;exact HC.out w';intro w';go_simp) (h:=?_);refine aa 7 ?_;refine aF (by kernel_rfl) ?_ _;intro W3 du;have bB:=qh (ag (aN HB.out) du);have cF:=qh (HX.out.dr.bl du);clear du HB HX fL ld1 ka pV tX s6 sX HC;go_wp2;go_roundw
    case rel=>exact⟨lo,m,rfl,by first|rfl|go_num,by omega,by omega,cF,bB,oF⟩
    case measure=>simp[intOf];omega
  ·obtain rfl:hi=lo:=by omega
   by_cases ni:hi<n
   ·have e2:(hi:Int)<(n:Int):=by omega
    have e3:¬(hi:Int)<(hi:Int):=by omega
    obtain⟨x,hx⟩:∃x,G[hi]? =ζ x:=⟨_,θ (by have:=Hl.out;omega)⟩
    obtain⟨b,off,rfl,aY,a8⟩:=H.out.place aS (by decide) (by omega);have bC:=HB.out;have wz:=IC hi x hx;have uB:=Dy x x1 x2;have hp:=a8 hi x hx;obtain⟨ov,tJ⟩:=aB (dW x.1 (x1,x2));rw[tJ] at wz uB;obtain⟨⟨i1,i2⟩,⟨rA,rn,rc,rL⟩,lb,at_⟩:=x;have q0:=hp 0 _ rfl;have q1:=hp 1 _ rfl;have q2:=hp 2 _ rfl;have q3:=hp 3 _ rfl;have q4:=hp 4 _ rfl;simp only[Ν,Jac] at q0 q1 q2 q3 q4;have l0:=(bC.cell (p:=⟨b,off+hi*5,ε⟩) aY).trans q0;have l1:=(bC.cell (p:=⟨b,off+hi*5+1,ε⟩) aY).trans q1;have l2:=(bC.cell (p:=⟨b,off+hi*5+2,ε⟩) aY).trans q2;have l3:=(bC.cell (p:=⟨b,off+hi*5+3,ε⟩) aY).trans q3;have l4:=(bC.cell (p:=⟨b,off+hi*5+4,ε⟩) aY).trans q4;have HC:Hid (∀w',Ζ η 136 #[φ #[J i1,J i2,γ rA rn rc,μ lb,J at_],φ #[J x1,J x2]] w' fun e bW=>e=.returned (J ov)∧σ w'.heap.size w' bW):=qh uB;have yF:Hid (ov=cf hi):=qh wz;clear hx a8 hp aY bC q0 q1 q2 q3 q4 wz tJ uB;obtain⟨bq,yb⟩:=aB ((ov==0))
    have kg:(decide (hi<n) && decide (cf hi=0))=bq:=by
     rw[decide_eq_true ni,←yF.out,←yb,Bool.true_and,Bool.eq_iff_iff,decide_eq_true_iff,beq_iff_eq]
    have xG:=qh kg;clear kg;go_upto_region 8 with fail
    have fL:=cz l0;have ld1:=cz l1;have ka:=cz l2;have pV:=cz l3;have tX:=cz l4;have s6:=cm (i:=0) HX.out rfl;have sX:=cm (i:=1) HX.out rfl;clear l0 l1 l2 l3 l4;refine ay (aO) (by kernel_rfl) ?_;refine aa 0 ?_;refine aa 1 ?_;refine aa 2 ?_;refine aa 3 ?_;refine aa 4 ?_;refine aa 5 ?_;refine aa 6 ?_;refine aa 7 ?_;refine aa 8 ?_;refine aa 9 ?_;refine aa 10 ?_;refine cV 11 (hy:=by apply bP;rfl;rotate_left;intro w' aC;exact HC.out w';intro w';go_simp) (h:=?_);refine aa 12 ?_;refine aa 13 ?_;refine aa 14 ?_;refine aa 15 ?_;refine aF (by kernel_rfl) ?_ _;intro W3 du;have bB:=qh (ag (aN HB.out) du);clear du HB HX fL ld1 ka pV tX s6 sX HC;go_wp2;refine bodyPost_ret (v:=.tuple #[J (hi:Int),Β bq]) (by simp[results,Tryz.results135,go_sem]) rfl ?_;exact⟨hi,jm,HI.out.1,HI.out.2,by rw[xG.out],bB.out⟩
   ·have e2:¬(hi:Int)<(n:Int):=by omega
    have e3:¬(hi:Int)<(hi:Int):=by omega
    have kg:(decide (hi<n) && decide (cf hi=0))=ρ:=by rw[decide_eq_false ni];rfl
    have xG:=qh kg;clear kg;go_upto_region 8 with fail
    refine ay (aO) (by kernel_rfl) ?_;refine aa 0 ?_;refine aa 1 ?_;refine aa 2 ?_;refine aa 3 ?_;refine aa 4 ?_;refine cp 5 ?_;refine cp 6 ?_;refine cp 7 ?_;refine cp 8 ?_;refine cp 9 ?_;refine cp 10 ?_;refine cp 11 ?_;refine cp 12 ?_;refine aa 13 ?_;refine aa 14 ?_;refine aa 15 ?_;refine aF (by kernel_rfl) ?_ _;intro W3 du;have bB:=qh (ag (aN HB.out) du);clear du HB HX;go_wp2;refine bodyPost_ret (v:=.tuple #[J (hi:Int),Β ρ]) (by simp[results,Tryz.results135,go_sem]) rfl ?_;exact⟨hi,jm,HI.out.1,HI.out.2,by rw[xG.out],bB.out⟩
end Go.Proofs.YtpdpbfmiahjiiaaGreat
