/- Several texts in one. -/
import Derived.Test.YtpdpbfmiahjiiaaGreatPsAA
import Derived.Test.YtpdpbfmiahjiiaaGreatPsAB
import Derived.Test.YtpdpbfmiahjiiaaGreatPsAC
import Derived.Test.YtpdpbfmiahjiiaaGreatPsAF
import Derived.Test.YtpdpbfmiahjiiaaGreatPsAG
import Derived.Maps.OwnSet
import Derived.Laws.MakeOwn
import Derived.Laws.OwnMore
set_option linter.unusedSectionVars false
set_option linter.unusedSimpArgs false
set_option linter.unusedVariables false
set_option maxRecDepth 100000
set_option maxHeartbeats 16000000
namespace Go.Proofs.YtpdpbfmiahjiiaaGreat
open Go.RowKit
open _root_.Go.Value renaming slice→γ,string→μ,pointer→υ,agg→φ,slice→Ο
open _root_.Go.Obj renaming cells→δ
open _root_.Option renaming none→ε,some→ζ,some→Jae
open _root_.Go.Proofs.Tryz renaming prog→η
open _root_.List renaming getElem?_eq_getElem→θ,getElem?_eq_some_iff→ν,getD_eq_getElem?_getD→χ,mem_of_getElem?→ω,mem_map→Α,length_append→Ε,mem_cons→Η,length_map→Ρ,all_eq_true→Φ,range→Ω,getElem?_append_left→Jab,mem_cons_of_mem→Jad,mem_cons_self→Jai,getElem?_append_right→Jal,mem_flatMap→Jat,length_cons→JaH,nodup_cons→JaJ,map_map→JaW,getElem?_set→Jbz,length_set→JbD
open _root_.Go.Act renaming put→ξ
open _root_.Go renaming World→ο,Value→ψ,Addr→Κ,TypeId→Υ
open _root_.Bool renaming false→ρ,true→τ,and_eq_true→Jar
open _root_.Go.RowKit renaming Below→σ
open _root_.Nat renaming le_trans→Λ,lt_or_ge→JaM
open _root_.Option.some renaming inj→Μ
open _root_.Go.IntKind renaming i64→Jaw,wrap_i64→JaT
open _root_.And renaming intro→Jax
open _root_.Exists renaming intro→JaG
open _root_.Go.World renaming setCell→JbB
def xz (a b:Int × Int):Int:=jz a.1 a.2 b.1 b.2
theorem x8 {a b c:Int × Int} (h:xz a b<0) (k:xz b c<0):xz a c<0:=by
 unfold xz at*;have h1:=rh a.1 a.2 b.1 b.2 c.1 c.2 (by omega) (by omega);have h2:=jF a.1 a.2 c.1 c.2;have h3:=sq a.1 a.2 b.1 b.2;rcases Int.lt_or_eq_of_le h1 with h4|h4
 ·exact h4
 ·obtain⟨e1,e2⟩:=h2.1 h4;rw[←e1,←e2] at k;omega
theorem IL {a b:Int × Int} (h:xz a b<0):a≠b:=by
 rintro rfl
 have:=(jF a.1 a.2 a.1 a.2).2 ⟨rfl,rfl⟩
 unfold xz at h;omega
theorem fS:∀(L:List (Int × Int)) (o:Option (Int × Int)),fA o L=τ↔(∀x∈L,dK x.1 x.2=τ)∧(∀y,o=ζ y→∀x∈L,xz y x<0)∧L.Pairwise (fun a b=>xz a b<0)
 |[],o=>by simp[fA]
 |x::r,o=>by
  have e:fA o (x::r)=(dK x.1 x.2 && (match o with|none=>τ|some y=>decide (jz y.1 y.2 x.1 x.2<0)) && fA (ζ x) r):=by cases o<;>rfl
  rw[e,Jar,Jar,fS r (ζ x),List.pairwise_cons];constructor
  ·rintro⟨⟨h1,h2⟩,h3,h4,h5⟩
   refine⟨fun y hy=>?_,fun y hy z hz=>?_,h4 x rfl,h5⟩
   ·rcases Η.1 hy with rfl|hy
    ·exact h1
    ·exact h3 y hy
   ·subst hy;have h6:xz y x<0:=of_decide_eq_true h2;rcases Η.1 hz with rfl|hz
    ·exact h6
    ·exact x8 h6 (h4 x rfl z hz)
  ·rintro⟨h1,h2,h3,h4⟩
   refine⟨⟨h1 x (Jai ..),?_⟩,fun y hy=>h1 y (Jad _ hy),fun y hy z hz=>?_,h4⟩
   ·cases o with
    |none=>rfl
    |some y=>exact decide_eq_true (h2 y rfl x (Jai ..))
   ·cases hy;exact h3 z hz
theorem dh {L:List (Int × Int)} (h:fA ε L=τ):L.Nodup:=
 List.Pairwise.imp (fun h=>IL h) ((fS L ε).1 h).2.2
theorem zS:∀(Es:List EC) (S:List D),(Es.map (·.1)).Nodup→(∀e∈Es,(e.1.1,e.1.2,(0:Int))∉S∧(e.1.1,e.1.2,(1:Int))∉S)→(DQ Es S).length=S.length+2*Es.length
 |[],S,_,_=>by simp[DQ]
 |e::r,S,hn,hS=>by
  rw[List.map_cons,JaJ] at hn;have h0:=hS e (Jai ..);have e1:oB (e.1.1,e.1.2,0) S=(e.1.1,e.1.2,0)::S:=by rw[oB,if_neg h0.1]
  have e2:oB (e.1.1,e.1.2,1) ((e.1.1,e.1.2,0)::S)=(e.1.1,e.1.2,1)::(e.1.1,e.1.2,0)::S:=by
   rw[oB,if_neg];rw[Η];rintro (h|h)
   ·simp at h
   ·exact h0.2 h
  rw[DQ,e1,e2,zS r _ hn.2 (fun x hx=>?_)]
  ·simp only[JaH];omega
  ·have bj:x.1≠e.1:=fun q=>hn.1 (q▸Α.2 ⟨x,hx,rfl⟩)
   have hx':=hS x (Jad _ hx)
   have key:∀a b:Int,(x.1.1,x.1.2,a)≠(e.1.1,e.1.2,b):=fun a b q=>by
    simp only[Prod.mk.injEq] at q;exact bj (Prod.ext q.1 q.2.1)
   refine⟨fun q=>?_,fun q=>?_⟩<;>· rcases Η.1 q with q|q;exact key _ _ q;rcases Η.1 q with q|q;exact key _ _ q;first|exact hx'.1 q|exact hx'.2 q
structure aG (Vs:List VC) (Es:List EC):Prop where
 v24:Vs.length≤24
 e40:Es.length≤40
 rv:fA ε (Vs.map (·.1))=τ
 re:fA ε (Es.map (·.1))=τ
 tu:Vs.all pj=τ
 pm:(ao Vs).Perm (DQ Es [])
 lv:Vs.all (fun v=>cQ v.2.2.1)=τ
 le:Es.all (fun v=>cQ v.2.1)=τ
 av:Vs.all (fun v=>eR v.2.2.2)=τ
 ae:Es.all (fun v=>eR v.2.2)=τ
theorem IA (Vs:List VC) (Es:List EC):jZ Vs Es=0↔aG Vs Es:=by
 unfold jZ yE;constructor
 ·intro h;split at h
  ·cases h
  ·rename_i h0;split at h
   ·cases h
   ·rename_i h1;split at h
    ·cases h
    ·rename_i h2;split at h
     ·cases h
     ·rename_i h3;simp only[decide_eq_true_eq,not_or,Bool.not_eq_true',Bool.not_eq_false,Jar] at h0 h1 h2 h3;exact⟨by omega,by omega,h1.1.1.1,h1.1.1.2,h1.1.2,(ig _ _).1 h1.2,h2.1,h2.2,h3.1,h3.2⟩
 ·intro h;have e0:decide (24<Vs.length∨40<Es.length)=ρ:=decide_eq_false (by have:=h.v24;have:=h.e40;omega);rw[e0,h.rv,h.re,h.tu,(ig _ _).2 h.pm,h.lv,h.le,h.av,h.ae];rfl
section
variable {Vs:List VC} {Es:List EC}
theorem aG.once (h:aG Vs Es):(ao Vs).Nodup:=h.pm.nodup_iff.2 (kP Es [] List.nodup_nil)
theorem aG.len (h:aG Vs Es):(ao Vs).length=2*Es.length:=by
 rw[h.pm.length_eq,zS Es [] (dh h.re) (fun e _=>⟨by simp,by simp⟩)];simp
theorem abo (hn:(ao Vs).Nodup) {v:VC} (hv:v∈Vs) {d:D} (hd:d∈v.2.1.2.2.2):lE Vs d=(v.1,τ):=by
 induction Vs with
 |nil=>cases hv
 |cons u r ih=>
  rw[eA] at hn;rw[List.nodup_append] at hn
  by_cases hu:d∈u.2.1.2.2.2
  ·rw[Ak _ _ _ hu];rcases Η.1 hv with rfl|hv
   ·rfl
   ·exact absurd rfl (hn.2.2 d hu d (Jat.2 ⟨v,hv,hd⟩))
  ·rw[EI _ _ _ hu];rcases Η.1 hv with rfl|hv
   ·exact absurd hd hu
   ·exact ih hn.2.1 hv
theorem aG.at (h:aG Vs Es) {v:VC} (hv:v∈Vs) {d:D} (hd:d∈v.2.1.2.2.2):lE Vs d=(v.1,τ):=abo h.once hv hd
theorem aG.edge (h:aG Vs Es) {v:VC} (hv:v∈Vs) {d:D} (hd:d∈v.2.1.2.2.2):(wu Es (d.1,d.2.1)).2=τ:=by
 have h1:=(ri Es d).2 (h.pm.mem_iff.1 (Jat.2 ⟨v,hv,hd⟩));unfold me at h1;rw[Jar] at h1;exact h1.1
end
def lj (v:VC) (s:ByteArray):VC:=(v.1,v.2.1,s,v.2.2.2)
theorem j0 {α β:Type} (f:α→β) (L:List α) (j:Nat) (x y:α) (hx:L[j]? =ζ x) (h:f y=f x):(L.set j y).map f=L.map f:=by
 rw[List.map_set,h];apply List.ext_getElem?;intro i;rw[Jbz];split
 ·rename_i e;subst e;have hj:=(ν.1 hx).1;rw[Ρ,if_pos hj,List.getElem?_map,hx];rfl
 ·rfl
theorem all_map {α β:Type} (f:α→β) (p:β→Bool) (L:List α):L.all (fun x=>p (f x))=(L.map f).all p:=by rw[List.all_map];rfl
theorem Fe {Vs Ws:List VC} {Es:List EC} (h:Ws.map vS=Vs.map vS):jZ Ws Es=jZ Vs Es:=by
 have hl:Ws.length=Vs.length:=by simpa using congrArg List.length h
 have e1:Ws.map (·.1)=Vs.map (·.1):=by
  have:=congrArg (List.map (fun s:(Int × Int) × List D × ByteArray × Int=>s.1)) h
  simpa [JaW,Function.comp_def,vS] using this
 have e2:Ws.map (·.2.1.2.2.2)=Vs.map (·.2.1.2.2.2):=by
  have:=congrArg (List.map (fun s:(Int × Int) × List D × ByteArray × Int=>s.2.1)) h
  simpa [JaW,Function.comp_def,vS] using this
 have e3:Ws.map (·.2.2.1)=Vs.map (·.2.2.1):=by
  have:=congrArg (List.map (fun s:(Int × Int) × List D × ByteArray × Int=>s.2.2.1)) h
  simpa [JaW,Function.comp_def,vS] using this
 have e4:Ws.map (·.2.2.2)=Vs.map (·.2.2.2):=by
  have:=congrArg (List.map (fun s:(Int × Int) × List D × ByteArray × Int=>s.2.2.2)) h
  simpa [JaW,Function.comp_def,vS] using this
 have r:∀Us:List VC,ao Us=(Us.map (·.2.1.2.2.2)).flatten:=fun Us=>by rw[ao,List.flatMap_def]
 have t:∀Us:List VC,Us.all pj=(Us.map (·.2.1.2.2.2)).all (fun L=>decide (L=aM L)):=fun Us=>by rw[List.all_map];rfl
 have l:∀Us:List VC,Us.all (fun v=>cQ v.2.2.1)=(Us.map (·.2.2.1)).all cQ:=fun Us=>by rw[List.all_map];rfl
 have a:∀Us:List VC,Us.all (fun v=>eR v.2.2.2)=(Us.map (·.2.2.2)).all eR:=fun Us=>by rw[List.all_map];rfl
 unfold jZ;rw[hl,e1,r Ws,r Vs,e2,t Ws,t Vs,e2,l Ws,l Vs,e3,a Ws,a Vs,e4]
theorem aG.same {Vs Ws:List VC} {Es:List EC} (hf:aG Vs Es) (h:Ws.map vS=Vs.map vS):aG Ws Es:=(IA Ws Es).1 ((Fe h).trans ((IA Vs Es).2 hf))
theorem aG.label {Vs:List VC} {Es:List EC} (h:aG Vs Es) {j:Nat} {x:VC} (hx:Vs[j]? =ζ x) (s:ByteArray):jZ (Vs.set j (lj x s)) Es=if cQ s then 0 else 4:=by
 have hj:=(ν.1 hx).1;have e0:decide (24<(Vs.set j (lj x s)).length∨40<Es.length)=ρ:=decide_eq_false (by have:=h.v24;have:=h.e40;rw[JbD];omega);have e1:=j0 (fun v:VC=>v.1) Vs j x (lj x s) hx rfl
 have e2:ao (Vs.set j (lj x s))=ao Vs:=by
  rw[ao,ao,List.flatMap_def,List.flatMap_def,j0 (fun v:VC=>v.2.1.2.2.2) Vs j x (lj x s) hx rfl]
 have t:∀Us:List VC,Us.all pj=(Us.map (fun v:VC=>v.2.1.2.2.2)).all (fun L=>decide (L=aM L)):=fun Us=>by rw[List.all_map];rfl
 have a:∀Us:List VC,Us.all (fun v=>eR v.2.2.2)=(Us.map (fun v:VC=>v.2.2.2)).all eR:=fun Us=>by rw[List.all_map];rfl
 have e3:(Vs.set j (lj x s)).all pj=Vs.all pj:=by
  rw[t,t,j0 (fun v:VC=>v.2.1.2.2.2) Vs j x (lj x s) hx rfl]
 have e4:(Vs.set j (lj x s)).all (fun v=>eR v.2.2.2)=Vs.all (fun v=>eR v.2.2.2):=by
  rw[a,a,j0 (fun v:VC=>v.2.2.2) Vs j x (lj x s) hx rfl]
 have e5:(Vs.set j (lj x s)).all (fun v=>cQ v.2.2.1)=cQ s:=by
  rw[Bool.eq_iff_iff,Φ];constructor
  ·intro ha;exact ha (lj x s) (ω (i:=j) (by rw[Jbz,if_pos rfl,if_pos hj]))
  ·intro hs v hv;rcases List.mem_or_eq_of_mem_set hv with hv|rfl
   ·exact Φ.1 h.lv v hv
   ·exact hs
 unfold jZ yE;rw[e0,e1,e2,e3,e4,e5,h.rv,h.re,h.tu,(ig _ _).2 h.pm,h.le,h.av,h.ae];cases cQ s<;>rfl
theorem NY {cs vs:List ψ} {o i:Nat} {u:ψ} (hc:∀j v,vs[j]? =ζ v→cs[o+j]? =ζ v) (hi:i<vs.length) (hl:o+vs.length≤cs.length):cU cs o (vs.set i u)=cs.set (o+i) u:=by
 unfold cU;rw[JbD];apply List.ext_getElem?;intro p;rw[Jbz];have ht:(cs.take o).length=o:=by rw[List.length_take];omega
 rcases JaM p o with h1|h1
 ·rw[Jab (by omega),List.getElem?_take,if_pos h1,if_neg (by omega)]
 ·rw[Jal (by omega),ht];rcases JaM (p - o) vs.length with h2|h2
  ·rw[Jab (by rw[JbD];exact h2),Jbz]
   by_cases h3:i=p - o
   ·subst h3;rw[if_pos rfl,if_pos h2,if_pos (by omega),if_pos (by omega)]
   ·rw[if_neg h3,if_neg (by omega)]
    have:=hc (p - o) _ (θ h2)
    rw[show o+(p - o)=p by omega] at this;rw[this,θ h2]
  ·rw[Jal (by rw[JbD];exact h2),JbD,List.getElem?_drop,if_neg (by omega)];congr 1;omega
theorem eZ {α:Type} {f:α→List ψ} {s:Nat} (hs:∀x,(f x).length=s) {W:ο} {lo n c:Nat} {T:Υ} {A:Option Κ} {L:List α} (h:W.ownsRow lo T s (γ A n c) n (ah f L)) {j i:Nat} {x y:α} {u:ψ}
 (hx:L[j]? =ζ x) (hn:j<n) (hi:i<s) (hy:f y=(f x).set i u):
 ∃g junk,A=ζ ⟨g,0,ε⟩∧lo≤g∧Whole W g T (ah f L++junk)∧W.cell? ⟨g,j*s+i,ε⟩=(f x)[i]?∧W.frozen? ⟨g,j*s+i,ε⟩=ρ∧
  (W.setCell ⟨g,j*s+i,ε⟩ u).ownsRow lo T s (γ A n c) n (ah f (L.set j y)):=by
 obtain⟨g,junk,rfl,fw,hw,hl,pU,oz,j9⟩:=cN h (by omega);have hlen:=cj f hs L;have hj:=(ν.1 hx).1;have qq:(j+1)*s≤L.length*s:=Nat.mul_le_mul_right _ hj;rw[Nat.succ_mul] at qq
 have hg:∀p v,(f x)[p]? =ζ v→(ah f L++junk)[j*s+p]? =ζ v:=fun p v hv=>by
  have h1:=pQ f hs L j x hx p v hv;rw[Jab (ν.1 h1).1];exact h1
 have Rq:i<(f x).length:=by rw[hs];exact hi
 have kf:cU (ah f L++junk) (j*s) (f y)=(ah f L++junk).set (j*s+i) u:=by
  rw[hy];exact NY hg Rq (by rw[Ε,hs];omega)
 rw[tE hs L junk j y hj] at kf;have fT:=hw.set_ (j*s+i) u;rw[←kf] at fT
 refine⟨g,junk,rfl,fw,hw,?_,hw.free _,kk fT fw ?_ pU oz ?_⟩
 ·rw[θ Rq];exact hw.cell (hg i _ (θ Rq))
 ·rw[kf,JbD];exact hl
 ·rw[cj f hs,JbD,←hlen];exact j9
theorem Fj {W:ο} {lo lo' k k' n n':Nat} {T T':Υ} {v v':ψ} {xs xs':List ψ} (h:W.ownsRow lo T k v n xs) (h':W.ownsRow lo' T' k' v' n' xs') (hT:T≠T'):v.ownBlock=ε∨v.ownBlock≠v'.ownBlock:=by
 rcases h.2 with⟨rfl,-⟩|⟨g,cap,cur,rfl,-,hg,-⟩
 ·exact .inl rfl
 ·refine .inr fun e=>?_
  rcases h'.2 with⟨rfl,-⟩|⟨g',YT,akO,rfl,-,UD,-⟩
  ·cases e
  ·have e1:g=g':=Μ e;subst e1;rw[hg] at UD;injection Μ UD with e2 e3 e4
   exact hT e3
theorem pS {W W':ο} {lo lo' k k' n n':Nat} {T T':Υ} {v v':ψ} {xs xs':List ψ} (h:W.ownsRow lo T k v n xs) (h':W.ownsRow lo' T' k' v' n' xs') (hT:T≠T') (hg:W.grownBy W' v'.ownBlock):W'.ownsRow lo T k v n xs:=h.kept hg (Fj h h' hT)
structure aJ (g:Nat) (W W':ο):Prop where
 w:∀b T cs,Whole W b T cs→b≠g→T≠59→T≠67→T≠98→Whole W' b T cs
 s:W.heap.size≤W'.heap.size
theorem aJ.of_below {g:Nat} {W W':ο} (h:σ W.heap.size W W'):aJ g W W':=⟨fun b T cs hw _ _ _ _=>hw.bl h,h.size⟩
theorem aJ.refl (g:Nat) (W:ο):aJ g W W:=aJ.of_below (Below.refl _ _)
theorem aJ.trans {g:Nat} {W W1 W2:ο} (h:aJ g W W1) (k:aJ g W1 W2):aJ g W W2:=⟨fun b T cs hw a b c d=>k.w _ _ _ (h.w _ _ _ hw a b c d) a b c d,Λ h.s k.s⟩
theorem aJ.setS {g:Nat} {W W1:ο} (h:aJ g W W1) (i:Nat) (u:ψ):aJ g W (W1.setCell ⟨g,i,ε⟩ u):=
 ⟨fun b T' qy hw h1 h2 h3 h4=>(h.w _ _ _ hw h1 h2 h3 h4).far h1 u,by simpa [JbB] using h.s⟩
theorem aJ.setT {g g':Nat} {W W1:ο} {T:Υ} {cs:List ψ} (h:aJ g W W1) (hg:Whole W1 g' T cs) (hT:T=59∨T=67∨T=98) (i:Nat) (u:ψ):aJ g W (W1.setCell ⟨g',i,ε⟩ u):=
 ⟨fun b T' qy hw h1 h2 h3 h4=>(h.w _ _ _ hw h1 h2 h3 h4).far ((h.w _ _ _ hw h1 h2 h3 h4).ne_ hg (by rcases hT with rfl|rfl|rfl<;>assumption)) u,by simpa [JbB] using h.s⟩
theorem aJ.grown {g:Nat} {W W':ο} {lo k n c:Nat} {T:Υ} {A:Option Κ} {xs:List ψ} (ho:W.ownsRow lo T k (γ A n c) n xs) (hT:T=59∨T=67∨T=98) (hg:W.grownBy W' (Ο A n c).ownBlock):aJ g W W':=
 ⟨fun b T' qy hw _ h2 h3 h4=>hw.grown hg (bD ho hw (by rcases hT with rfl|rfl|rfl<;>assumption)),hg.size⟩
structure bK (w:ο) (lo g:Nat) (A:Option Κ) (n c:Nat) (Vs:List VC) (B:Option Κ) (m k:Nat) (Es:List EC) (C:Option Κ) (r rc:Nat) (G:List Gn) (W:ο):Prop where
 s:Whole W g 28 [γ A n c,γ B m k,γ C r rc]
 v:W.ownsRow lo 59 5 (γ A n c) n (ah vC Vs)
 e:W.ownsRow lo 67 4 (γ B m k) m (ah eC Es)
 rg:∀x∈Vs,ko W x.2.1
 gn:W.ownsRow lo 98 6 (γ C r rc) r (ah cZ G)
 below:σ w.heap.size w W
 lo_:w.heap.size≤lo
 hi:lo≤W.heap.size
 gl:w.heap.size≤g
theorem ir {W w':ο} {b:Nat} (h:Kept (fun x=>x=b) W w'):W.grownBy w' (ζ b):=oL h
section
variable {w W:ο} {lo g:Nat} {A:Option Κ} {n c:Nat} {Vs:List VC} {B:Option Κ} {m k:Nat} {Es:List EC} {C:Option Κ} {r rc:Nat} {G:List Gn}
theorem bK.up {W':ο} (h:bK w lo g A n c Vs B m k Es C r rc G W) (hb:σ W.heap.size W W'):bK w lo g A n c Vs B m k Es C r rc G W':=
 ⟨h.s.bl hb,bo h.v hb,bo h.e hb,fun x hx=>(h.rg x hx).bl hb,bo h.gn hb,ag h.below hb,h.lo_,Λ h.hi hb.size,h.gl⟩
theorem bK.vlen (h:bK w lo g A n c Vs B m k Es C r rc G W):Vs.length=n:=(aK h.v).rlen aS (by decide)
theorem bK.elen (h:bK w lo g A n c Vs B m k Es C r rc G W):Es.length=m:=(aK h.e).rlen bM (by decide)
theorem bK.setV {A':Option Κ} {n' c':Nat} {Vs':List VC} {W':ο} (h:bK w lo g A n c Vs B m k Es C r rc G W) (hg:W.grownBy W' (Ο A n c).ownBlock) (hv:W'.ownsRow lo 59 5 (γ A' n' c') n' (ah vC Vs')) (hr:∀x∈Vs',x∈Vs∨ko W' x.2.1):
 bK w lo g A' n' c' Vs' B m k Es C r rc G (W'.setCell ⟨g,0,ε⟩ (γ A' n' c')):=by
 have hs:=h.s.grown hg (bD h.v h.s (by decide));have he:=pS h.e h.v (by decide) hg;have Tt:=pS h.gn h.v (by decide) hg;have fw:∀q,(Ο A n c).ownBlock=ζ q→lo≤q:=fun q e=>(h.v.lt q e).1
 refine⟨hs.set_ 0 _,aT hv (bD hv hs (by decide)) _,aT he (bD he hs (by decide)) _,fun x hx=>?_,aT Tt (bD Tt hs (by decide)) _,?_,h.lo_,?_,h.gl⟩
 ·rcases hr x hx with h1|h1
  ·exact((h.rg x h1).grown h.v (by decide) hg).cell hs (by decide) _ _
  ·exact h1.cell hs (by decide) _ _
 ·exact(h.below.grown hg h.below.size (fun q e=>Λ h.lo_ (fw q e))).setCell (p:=⟨g,0,ε⟩) h.gl _
 ·have:=hg.size
  have:=h.hi
  simpa [JbB] using by omega
theorem bK.setE {B':Option Κ} {m' k':Nat} {Es':List EC} {W':ο} (h:bK w lo g A n c Vs B m k Es C r rc G W) (hg:W.grownBy W' (Ο B m k).ownBlock) (he:W'.ownsRow lo 67 4 (γ B' m' k') m' (ah eC Es')):
 bK w lo g A n c Vs B' m' k' Es' C r rc G (W'.setCell ⟨g,1,ε⟩ (γ B' m' k')):=by
 have hs:=h.s.grown hg (bD h.e h.s (by decide));have hv:=pS h.v h.e (by decide) hg;have Tt:=pS h.gn h.e (by decide) hg;have fw:∀q,(Ο B m k).ownBlock=ζ q→lo≤q:=fun q e=>(h.e.lt q e).1
 refine⟨hs.set_ 1 _,aT hv (bD hv hs (by decide)) _,aT he (bD he hs (by decide)) _,fun x hx=>?_,aT Tt (bD Tt hs (by decide)) _,?_,h.lo_,?_,h.gl⟩
 ·exact((h.rg x hx).grown h.e (by decide) hg).cell hs (by decide) _ _
 ·exact(h.below.grown hg h.below.size (fun q e=>Λ h.lo_ (fw q e))).setCell (p:=⟨g,1,ε⟩) h.gl _
 ·have:=hg.size
  have:=h.hi
  simpa [JbB] using by omega
theorem bK.dg (h:bK w lo g A n c Vs B m k Es C r rc G W):bz W A n c Vs B m k Es:=⟨aK h.v,aK h.e,fun x hx=>⟨(h.rg x hx).1,(h.rg x hx).2.1⟩⟩
theorem bK.glen (h:bK w lo g A n c Vs B m k Es C r rc G W):G.length=r:=(aK h.gn).rlen bT (by decide)
theorem bK.bl {W':ο} (h:bK w lo g A n c Vs B m k Es C r rc G W) (hb:σ W.heap.size W W'):bK w lo g A n c Vs B m k Es C r rc G W':=h.up hb
theorem bK.al (h:bK w lo g A n c Vs B m k Es C r rc G W) (o:Obj):bK w lo g A n c Vs B m k Es C r rc G (W.alloc o):=h.up (az W o)
theorem bK.dr (h:bK w lo g A n c Vs B m k Es C r rc G W):bK w lo g A n c Vs B m k Es C r rc G W.drew:=h.up (below_drewN W.heap.size W 1)
theorem bK.cellV (h:bK w lo g A n c Vs B m k Es C r rc G W) {i j:Nat} {v v':VC} {u:ψ} (hv:Vs[i]? =ζ v) (hj:j<5) (hc:vC v'=(vC v).set j u) (hr:v'.2.1=v.2.1∨ko W v'.2.1):
 ∃b cs,A=ζ ⟨b,0,ε⟩∧w.heap.size≤b∧Whole W b 59 cs∧W.cell? ⟨b,i*5+j,ε⟩=(vC v)[j]?∧W.frozen? ⟨b,i*5+j,ε⟩=ρ∧bK w lo g A n c (Vs.set i v') B m k Es C r rc G (W.setCell ⟨b,i*5+j,ε⟩ u)∧aJ g W (W.setCell ⟨b,i*5+j,ε⟩ u):=by
 have hi:i<n:=by rw[←h.vlen];exact(ν.1 hv).1
 obtain⟨b,junk,rfl,fw,hw,yC,Iv,ho⟩:=eZ aS h.v hv hi hj hc
 refine⟨b,_,rfl,Λ h.lo_ fw,hw,yC,Iv,⟨h.s.far ((h.s.ne_ hw (by decide))) u,ho,?_,fun x hx=>?_,?_,h.below.setCell (p:=⟨b,i*5+j,ε⟩) (Λ h.lo_ fw) _,h.lo_,by simpa [JbB] using h.hi,h.gl⟩,(aJ.refl g W).setT hw (.inl rfl) _ _⟩
 ·exact aT h.e (bD h.e hw (by decide)) _
 ·rcases List.mem_or_eq_of_mem_set hx with hx|rfl
  ·exact(h.rg x hx).cell hw (by decide) _ _
  ·rcases hr with e|hr
   ·rw[e];exact(h.rg v (ω hv)).cell hw (by decide) _ _
   ·exact hr.cell hw (by decide) _ _
 ·exact aT h.gn (bD h.gn hw (by decide)) _
theorem bK.cellE (h:bK w lo g A n c Vs B m k Es C r rc G W) {i j:Nat} {v v':EC} {u:ψ} (hv:Es[i]? =ζ v) (hj:j<4) (hc:eC v'=(eC v).set j u):
 ∃b cs,B=ζ ⟨b,0,ε⟩∧w.heap.size≤b∧Whole W b 67 cs∧W.cell? ⟨b,i*4+j,ε⟩=(eC v)[j]?∧W.frozen? ⟨b,i*4+j,ε⟩=ρ∧bK w lo g A n c Vs B m k (Es.set i v') C r rc G (W.setCell ⟨b,i*4+j,ε⟩ u)∧aJ g W (W.setCell ⟨b,i*4+j,ε⟩ u):=by
 have hi:i<m:=by rw[←h.elen];exact(ν.1 hv).1
 obtain⟨b,junk,rfl,fw,hw,yC,Iv,ho⟩:=eZ bM h.e hv hi hj hc
 refine⟨b,_,rfl,Λ h.lo_ fw,hw,yC,Iv,⟨h.s.far ((h.s.ne_ hw (by decide))) u,?_,ho,fun x hx=>(h.rg x hx).cell hw (by decide) _ _,?_,h.below.setCell (p:=⟨b,i*4+j,ε⟩) (Λ h.lo_ fw) _,h.lo_,by simpa [JbB] using h.hi,h.gl⟩,(aJ.refl g W).setT hw (.inr (.inl rfl)) _ _⟩
 ·exact aT h.v (bD h.v hw (by decide)) _
 ·exact aT h.gn (bD h.gn hw (by decide)) _
theorem CD (h:bK w lo g A n c Vs B m k Es C r rc G W) (i:Nat) (hi:i<n) (hn:n≤1000):Calls η 112 #[υ (ζ ⟨g,0,ε⟩),J (i:Int)] W fun e w'=>e=.returned (.tuple #[])∧∃A' c',bK w lo g A' (n - 1) c' (Vs.eraseIdx i) B m k Es C r rc G w'∧aJ g W w':=by
 have hl:Vs.length=n:=h.vlen;obtain⟨b,junk,rfl,fw,hW,ln,pU,oz,j9⟩:=cN h.v (by omega);have HD:=qh (Oc b c i n Vs junk W hW hl ln oz hi);have Fb:(ah vC (Vs.eraseIdx i)).length=(n - 1)*5:=by rw[cj vC aS,List.length_eraseIdx,if_pos (by omega),hl]
 have HF:Hid (∀w',Whole w' b 59 (ah vC (Vs.eraseIdx i)++([J 0,J 0,γ ε 0 0,μ {data:=#[]},J 0]++junk))→Kept (fun x=>x=b) W w'→bK w lo g (ζ ⟨b,0,ε⟩) (n - 1) c (Vs.eraseIdx i) B m k Es C r rc G (w'.setCell ⟨g,0,ε⟩ (γ (ζ ⟨b,0,ε⟩) (n - 1) c))):=qh (fun w' h1 h2=>h.setV (ir h2) (kk (junk:=[J 0,J 0,γ ε 0 0,μ {data:=#[]},J 0]++junk) h1 fw (by
  rw[Ε,Fb,Ε,show([J 0,J 0,γ ε 0 0,μ {data:=#[]},J 0]:List ψ).length=5 from rfl];rw[Ε,j9] at ln;omega) (by omega) oz Fb) (fun x hx=>.inl (List.mem_of_mem_eraseIdx hx)))
 have XF:Hid (∀w',Kept (fun x=>x=b) W w'→aJ g W (w'.setCell ⟨g,0,ε⟩ (γ (ζ ⟨b,0,ε⟩) (n - 1) c))):=qh (fun w' h2=>(aJ.grown h.v (.inl rfl) (ir h2)).setS _ _);have HS:=qh h.s;have bj:b≠g:=fun e=>bD h.v h.s (by decide) (by rw[←e];rfl)
 have c0:=h.s.cell (i:=0) rfl;have ia:Jaw.wrap ((i:Int)+1)=(i:Int)+1:=by rw[JaT];omega
 have Hk:Hid (∀w',Kept (fun x=>x=b) W w'→(w'.cell? ⟨g,0,ε⟩).isSome=τ∧w'.frozen? ⟨g,0,ε⟩=ρ):=qh (fun w' h2=>by
  have hs:=HS.out.grown (ir h2) (fun e=>bj (Μ e).symm);exact⟨by rw[hs.cell (i:=0) rfl];rfl,hs.free _⟩)
 clear hW ln j9 Fb h bj;go_enter Tryz.func112,Tryz.ntmps112
 go_wp2_with (first
  |(go_at_call 139
    refine HD.out.mono ?_;rintro e w3 ⟨rfl,h1,h2⟩;have HF3:=qh (HF.out w3 h1 h2);have BF:=qh (XF.out w3 h2);obtain⟨vW,rC⟩:=Hk.out w3 h2;obtain⟨vk,vW⟩:=Option.isSome_iff_exists.1 vW;clear h1 h2))
 go_end0;exact⟨rfl,_,_,HF3.out,BF.out⟩
end
theorem xm {P:Program} {fn:Func} {R:Ending→ο→Prop} {a:Act} {w:ο} {p:Tmp} {t:Υ} (h:fn.results=#[.cell p t]) (g:Nat) {t':Υ} {cs:List ψ} {d:TypeDesc}
 (hp:a.tmps.getD p undef=υ (ζ ⟨g,0,ε⟩)) (hW:Whole w g t' cs) (hu:P.underlying t=ζ d) (hd:d.isRow=τ) (hi:(P.info? t).map (·.size)=ζ cs.length)
 (Qe:a.defers=[]) (hR:R (.returned (φ cs.toArray)) w):bodyPost P fn R .ret a w:=by
 refine bodyPost_ret (v:=φ cs.toArray) ?_ Qe hR
 have hl:=run_loadVar_mid (P:=P) w g 0 t cs d (fun j v hv=>by
  have:=hW.cell hv
  simpa using this) hu hd hi
 have ob:=hp;rw[Array.getD_eq_getD_getElem?] at ob;simp[results,h,ob,asAddr,Sem.run_bind,Result.andThen,hl]
section
variable {w W:ο} {lo g:Nat} {A:Option Κ} {n c:Nat} {Vs:List VC} {B:Option Κ} {m k:Nat} {Es:List EC} {C:Option Κ} {r rc:Nat} {G:List Gn}
theorem Cs {W W1 W2:ο} {r:Option Nat} (h:W.grownBy W1 r) (hb:σ W1.heap.size W1 W2):W.grownBy W2 r:=⟨hb.os.trans h.os,hb.tape.trans h.tape,hb.output.trans h.output,Λ h.size hb.size,fun q hq hn=>(hb.block q (Nat.lt_of_lt_of_le hq h.size)).trans (h.block q hq hn)⟩
theorem CU (h:bK w lo g A n c Vs B m k Es C r rc G W) (v:VC) (hv:ko W v.2.1) (hn:n≤1000) (hu:od (fun v:VC=>v.1) Vs) (hx:∀u∈Vs,¬u.1=v.1):Calls η 111 #[υ (ζ ⟨g,0,ε⟩),φ (vC v).toArray] W fun e w'=>e=.returned (.tuple #[])∧∃A' c',bK w lo g A' (n+1) c' (kq (fun v:VC=>v.1) Vs v) B m k Es C r rc G w'∧aJ g W w':=by
 obtain⟨⟨i1,i2⟩,⟨rA,rn,jg,rL⟩,lb,at_⟩:=v;have Hv:=qh hv;clear hv;have Pd:Hid (∀t x,Vs[t]? =ζ x→dW x.1 (i1,i2)=dW (Vs.getD t ((i1,i2),(rA,rn,jg,rL),lb,at_)).1 (i1,i2)):=qh (fun t x ht=>by rw[χ,ht];rfl);have hlen:=h.vlen;have WE:=qh (fun q e=>(h.v.lt q e).2)
 have BO:Hid (∀a b,a≤b→b<n→dW (Vs.getD b ((i1,i2),(rA,rn,jg,rL),lb,at_)).1 (i1,i2)<0→dW (Vs.getD a ((i1,i2),(rA,rn,jg,rL),lb,at_)).1 (i1,i2)<0):=qh (fun a b s8 hb h0=>by
  rcases JaM a b with h1|h1
  ·have ea:=θ (l:=Vs) (i:=a) (by omega);have eb:=θ (l:=Vs) (i:=b) (by omega);rw[χ,ea];rw[χ,eb] at h0;exact lW ((List.pairwise_iff_getElem.1 hu) a b (by omega) (by omega) h1) h0
  ·obtain rfl:a=b:=by omega
   exact h0)
 have OC:Hid (∀i,i≤n→(∀t,t<i→dW (Vs.getD t ((i1,i2),(rA,rn,jg,rL),lb,at_)).1 (i1,i2)<0)→(∀t,i≤t→t<n→0≤dW (Vs.getD t ((i1,i2),(rA,rn,jg,rL),lb,at_)).1 (i1,i2))→Vs.take i++((i1,i2),(rA,rn,jg,rL),lb,at_)::Vs.drop i=kq (fun v:VC=>v.1) Vs ((i1,i2),(rA,rn,jg,rL),lb,at_)):=qh (fun i hi h1 h2=>by
  refine(Aa (k:=(fun v:VC=>v.1)) (v:=((i1,i2),(rA,rn,jg,rL),lb,at_)) (by omega) (fun t u ht dz=>?_) (fun t u ht hle=>?_)).symm
  ·have:=h1 t dz
   rw[χ,ht] at this;exact this
  ·have h3:=h2 t hle (by have:=(ν.1 ht).1;omega);rw[χ,ht] at h3;have h4:¬dW u.1 (i1,i2)=0:=fun e=>hx u (ω ht) ((jA _ _).1 e)
   have h5:0≤dW u.1 (i1,i2):=h3;show 0<dW u.1 (i1,i2);omega)
 have fp:=az W (δ #[J i1,J i2,γ rA rn jg,μ lb,J at_] 59);have H0:=qh (h.up fp);have aQ:Hid (Whole (W.alloc (δ #[J i1,J i2,γ rA rn jg,μ lb,J at_] 59)) W.heap.size 59 [J i1,J i2,γ rA rn jg,μ lb,J at_]):=qh (Whole.new_ _ _ _);have bw:=qh fp;clear h fp hu hx hlen;show Calls η 111 #[υ (ζ ⟨g,0,ε⟩),φ #[J i1,J i2,γ rA rn jg,μ lb,J at_]] W _;go_enter Tryz.func111,Tryz.ntmps111;go_upto_region 1 with fail
 obtain⟨W0,bO⟩:=aB (W.alloc (δ #[J i1,J i2,γ rA rn jg,μ lb,J at_] 59));obtain⟨b0,bp⟩:=aB W.heap.size;rw[bO] at H0 aQ bw ⊢;rw[bp] at aQ;rw[bp];have KU:Hid (∀q,(Ο A n c).ownBlock=ζ q→q<b0):=qh (fun q e=>by have:=(WE.out q e);omega);clear bO bp;have fL:∀w',Kept aO W0.drew w'→w'.cell? ⟨g,0,ε⟩=ζ (γ A n c):=fun w' h=>h.nil_cell (H0.out.dr.s.cell (i:=0) rfl)
 have ld1:=cm (i:=0) aQ.out rfl;have ka:=cm (i:=1) aQ.out rfl;refine ay (aO) (by kernel_rfl) ?_;refine aa 0 ?_;refine aa 1 ?_;refine aa 2 ?_;refine aa 3 ?_;refine aa 4 ?_;refine aa 5 ?_;refine aa 6 ?_;refine mw 7 ?_;intro w' aC
 refine(Q9 A n c Vs i1 i2 w' (aK (H0.out.dr.bl aC).v) (by omega) _ Pd.out BO.out).mono ?_
 rintro e w2 ⟨i,hi,h1,h2,rfl,aP⟩
 refine⟨_,rfl,Kept.of_below aP,?_⟩
 have HI:=qh (OC.out i hi h1 h2);have H2:=qh ((H0.out.dr.bl aC).bl aP);have aZ:=qh ((aQ.out.dr.bl aC).bl aP);have bG:=qh (ag (ag (aN bw.out) aC) aP);clear aP aC h1 h2 fL ld1 ka H0 aQ bw OC Pd BO;simp only[ξ,aw,ar,aq];refine aa 8 ?_;refine aa 9 ?_;refine aa 10 ?_;refine aa 11 ?_;refine aa 12 ?_;refine aF (by kernel_rfl) ?_ _;intro w3 du;have H3:=qh (H2.out.bl du);have cF:=qh (aZ.out.bl du);have bB:=qh (ag bG.out du);clear du H2 aZ bG;go_upto_region 2 with fail
 obtain⟨OB,R4⟩:=aB ((Ο A n c).ownBlock);have hgo:¬ζ g=OB:=by rw[←R4];exact bD H3.out.v H3.out.s (by decide)
 have AS:¬ζ b0=OB:=fun e=>by have:=KU.out b0 (R4.trans e.symm);omega
 have GOB:=qh R4;clear R4;have fL:∀w',Kept (fun x=>ζ x=OB) w3.drew w'→w'.cell? ⟨g,0,ε⟩=ζ (γ A n c):=fun w' h=>h.cell (H3.out.dr.s.cell (i:=0) rfl) hgo
 have l0:∀w',Kept (fun x=>ζ x=OB) w3.drew w'→w'.cell? ⟨b0,0,ε⟩=ζ (J i1):=fun w' h=>h.cell (cF.out.dr.cell (i:=0) rfl) AS
 have l1:∀w',Kept (fun x=>ζ x=OB) w3.drew w'→w'.cell? ⟨b0,1,ε⟩=ζ (J i2):=fun w' h=>h.cell (cF.out.dr.cell (i:=1) rfl) AS
 have l2:∀w',Kept (fun x=>ζ x=OB) w3.drew w'→w'.cell? ⟨b0,2,ε⟩=ζ (γ rA rn jg):=fun w' h=>h.cell (cF.out.dr.cell (i:=2) rfl) AS
 have l3:∀w',Kept (fun x=>ζ x=OB) w3.drew w'→w'.cell? ⟨b0,3,ε⟩=ζ (μ lb):=fun w' h=>h.cell (cF.out.dr.cell (i:=3) rfl) AS
 have l4:∀w',Kept (fun x=>ζ x=OB) w3.drew w'→w'.cell? ⟨b0,4,ε⟩=ζ (J at_):=fun w' h=>h.cell (cF.out.dr.cell (i:=4) rfl) AS
 refine cI (fun x=>ζ x=OB) [13] (by kernel_rfl) ?_;refine aU 0 ?_;refine aU 1 ?_;refine aU 2 ?_;refine aU 3 ?_;refine aU 4 ?_;refine aU 5 ?_;refine aU 6 ?_;refine aU 7 ?_;refine lM 8 ?_;intro w' aC;have j8:=qh ((H3.out.dr.bl aC).al (δ #[J i1,J i2,γ rA rn jg,μ lb,J at_] 59));have Qi:Hid (Whole (w'.alloc (δ #[J i1,J i2,γ rA rn jg,μ lb,J at_] 59)) w'.heap.size 59 [J i1,J i2,γ rA rn jg,μ lb,J at_]):=qh (Whole.new_ _ _ _)
 have VN:Hid (ζ w'.heap.size≠(Ο A n c).ownBlock):=qh (fun e=>by
  have:=((H3.out.dr.bl aC).v.lt w'.heap.size e.symm).2
  omega)
 have kC:=qh (aI (ag (aN bB.out) aC) (δ #[J i1,J i2,γ rA rn jg,μ lb,J at_] 59))
 refine⟨_,w'.alloc (δ #[J i1,J i2,γ rA rn jg,μ lb,J at_] 59),by(go_simp;first|done|exact rfl|exact⟨rfl,rfl⟩),Kept.of_below (az _ _),?_⟩
 obtain⟨b4,BJ⟩:=aB w'.heap.size;obtain⟨W4,uQ⟩:=aB (w'.alloc (δ #[J i1,J i2,γ rA rn jg,μ lb,J at_] 59));rw[uQ] at j8 Qi kC;rw[BJ] at Qi VN;rw[uQ,BJ];clear aC uQ BJ fL l0 l1 l2 l3 l4 H3 cF bB;simp only[ξ,aw,ar,aq];refine CR 9 ?_;intro w' aC
 refine(zN (w:=w) (B:=lo) (G:=Vs) ((i1,i2),(rA,rn,jg,rL),lb,at_) ⟨(j8.out.bl aC).v,(j8.out.bl aC).below,j8.out.lo_,(j8.out.bl aC).hi⟩ (by exact Qi.out.bl aC) VN.out (by omega) hi).mono ?_
 rintro e w5 ⟨A5,c5,rfl,KS,uu⟩;rw[HI.out] at KS
 have HF5:Hid (∀W5,σ w5.heap.size w5 W5→bK w lo g A5 (n+1) c5 (kq (fun v:VC=>v.1) Vs ((i1,i2),(rA,rn,jg,rL),lb,at_)) B m k Es C r rc G (W5.setCell ⟨g,0,ε⟩ (γ A5 (n+1) c5))∧(∃u,W5.cell? ⟨g,0,ε⟩=ζ u)∧W5.frozen? ⟨g,0,ε⟩=ρ∧aJ g W (W5.setCell ⟨g,0,ε⟩ (γ A5 (n+1) c5))):=qh (fun W5 fP=>by
  have hS:=j8.out.bl aC;have hg:=Cs uu fP;have hs:=hS.s.grown hg (bD hS.v hS.s (by decide))
  refine⟨hS.setV hg (bo KS.own fP) (fun x hx=>by
   rcases cy.1 hx with rfl|hx
   ·exact .inr ((((Hv.out.bl kC.out).bl aC).grown hS.v (by decide) hg))
   ·exact .inl hx),⟨_,hs.cell (i:=0) rfl⟩,hs.free _,?_⟩
  exact((aJ.of_below kC.out).trans ((aJ.of_below aC).trans (aJ.grown hS.v (.inl rfl) hg))).setS _ _)
 refine⟨_,rfl,⟨uu.os,uu.tape,uu.output,uu.size,fun q hq hn=>uu.block q hq (fun e=>hn (e.trans GOB.out))⟩,?_⟩
 clear aC KS uu j8 Qi VN kC HI;simp only[ξ,aw,ar,aq];refine lM 10 ?_;intro w' aC;apply JaG;apply JaG;apply Jax
 ·go_simp;first|done|exact⟨rfl,rfl⟩|exact rfl
 apply Jax
 ·exact Kept.refl _ _
 have wW:=aC;clear aC;simp only[ξ,aw,ar,aq];refine lM 11 ?_;intro w' aC;replace aC:=Ext.trans wW aC;apply JaG;apply JaG;apply Jax
 ·go_simp;first|done|exact⟨rfl,rfl⟩|exact rfl
 apply Jax
 ·exact Kept.refl _ _
 have GH:=aC;clear aC;simp only[ξ,aw,ar,aq];refine aU 12 ?_;refine qu 13 ?_;intro w' aC;replace aC:=Ext.trans GH aC;clear GH;obtain⟨oH,⟨u5,Ph⟩,YU,Se⟩:=HF5.out w' aC;have MR:=qh oH;have ki:=qh Se;clear oH Se
 refine⟨w'.setCell ⟨g,0,ε⟩ (γ A5 (n+1) c5),by(go_simp;first|done|exact rfl|exact⟨rfl,rfl⟩),?_⟩
 clear Ph YU;obtain⟨W7,tr⟩:=aB (w'.setCell ⟨g,0,ε⟩ (γ A5 (n+1) c5));rw[tr] at MR ki ⊢;clear tr aC HF5;(try simp only[ξ,aw,ar,aq]);refine gG (by kernel_rfl) ?_ _;intro w8 cg;have Sw:=qh (MR.out.bl cg);have mc:=qh (ki.out.trans (aJ.of_below cg));clear cg MR ki;go_wp2;go_end0;exact⟨rfl,by first|exact⟨_,_,Sw.out,mc.out⟩|exact⟨⟨_,_,Sw.out⟩,mc.out⟩⟩
end
section
variable {w W:ο} {lo g:Nat} {A:Option Κ} {n c:Nat} {Vs:List VC} {B:Option Κ} {m k:Nat} {Es:List EC} {C:Option Κ} {r rc:Nat} {G:List Gn}
theorem rotherI_any (s n c:Int) (h:c=0∨c=1):Pure 32 #[φ #[J s,J n,J c]] (φ #[J s,J n,J (1 - c)]):=fun w=>by
 have h1:Jaw.wrap (1 - c)=1 - c:=by rw[JaT];omega
 go_enter Tryz.func32,Tryz.ntmps32;go_wp2;exact bodyPost_ret (v:=φ #[J s,J n,J (1 - c)]) (by simp[results,Tryz.results32,go_sem]) rfl ⟨rfl,cr _ _ _⟩
end
def fR {α:Type} (f:α→α):Nat→α→α
 |0,x=>x
 |k+1,x=>fR f k (f x)
structure Pm {α:Type} (f:α→α) (L:List α):Prop where
 nd:L.Nodup
 cl:∀x∈L,f x∈L
 inj:∀x∈L,∀y∈L,f x=f y→x=y
def Rl {α:Type} (f:α→α) (x y:α):Prop:=∃i,fR f i x=y
structure iW {α:Type} (f:α→α) (x:α) (p:Nat):Prop where
 pos:0<p
 back:fR f p x=x
 ne:∀i,0<i→i<p→fR f i x≠x
def lA {α:Type} (f:α→α) (x:α) (p:Nat):List α:=(Ω p).map fun i=>fR f i x
def l9 {α:Type} [DecidableEq α] (f:α→α) (x:α):Nat→α→List α
 |0,_=>[]
 |k+1,y=>y::(if f y=x then[] else l9 f x k (f y))
structure jW {α:Type} (f:α→α) (L P:List α):Prop where
 nd:P.Nodup
 sub:∀p∈P,p∈L
 all:∀x∈L,∃p∈P,Rl f p x
 one:∀p∈P,∀q∈P,Rl f p q→p=q
theorem Ax {α β:Type} [DecidableEq β] (r:α→β→Prop):∀(A:List α) (B:List β),A.Nodup→(∀a∈A,∃b∈B,r a b)→(∀a∈A,∀a'∈A,∀b∈B,r a b→r a' b→a=a')→A.length≤B.length
 |[],_,_,_,_=>Nat.zero_le _
 |a::A,B,hn,he,hi=>by
  rw[JaJ] at hn;obtain⟨b,hb,hr⟩:=he a (Jai ..)
  have h1:=Ax r A (B.erase b) hn.2 (fun a' Xq=>by
   obtain⟨b',Iz,Tb⟩:=he a' (Jad _ Xq)
   refine⟨b',(List.mem_erase_of_ne (fun e=>?_)).2 Iz,Tb⟩
   subst e;exact hn.1 (hi a (Jai ..) a' (Jad _ Xq) b' Iz hr Tb▸Xq)) (fun x hx y hy z hz=>hi x (Jad _ hx) y (Jad _ hy) z (List.mem_of_mem_erase hz))
  rw[List.length_erase_of_mem hb] at h1
  have:=List.length_pos_of_mem hb
  simp only[JaH];omega
theorem zH {α:Type} [DecidableEq α] {A B:List α} (h:A.Nodup) (hs:∀x∈A,x∈B):A.length≤B.length:=
 Ax (fun a b=>a=b) A B h (fun a ha=>⟨a,hs a ha,rfl⟩) (fun _ _ _ _ _ _ e e'=>e.trans e'.symm)
theorem least {p:Nat→Prop} (h:∃n,p n):∃n,p n∧∀m,m<n→¬p m:=by
 obtain⟨n,hn⟩:=h
 induction n using Nat.strongRecOn with
 |_ n ih=>
  by_cases q:∃m,m<n∧p m
  ·obtain⟨m,h1,h2⟩:=q;exact ih m h1 h2
  ·exact⟨n,hn,fun m h1 h2=>q ⟨m,h1,h2⟩⟩
section
variable {α:Type} {f:α→α} {L P Q:List α}
theorem ks (i j:Nat) (x:α):fR f (i+j) x=fR f j (fR f i x):=by
 induction i generalizing x with
 |zero=>rw[Nat.zero_add];rfl
 |succ i ih=>rw[Nat.succ_add];exact ih (f x)
theorem dp (k:Nat) (x:α):fR f (k+1) x=f (fR f k x):=ks k 1 x
theorem Pm.it (h:Pm f L) {x:α} (hx:x∈L):∀k,fR f k x∈L
 |0=>hx
 |k+1=>by rw[dp];exact h.cl _ (h.it hx k)
theorem Pm.it_inj (h:Pm f L) {x y:α} (hx:x∈L) (hy:y∈L):∀k,fR f k x=fR f k y→x=y
 |0,e=>e
 |k+1,e=>by
  rw[dp,dp] at e;exact h.it_inj hx hy k (h.inj _ (h.it hx k) _ (h.it hy k) e)
theorem Pm.per [DecidableEq α] (h:Pm f L) {x:α} (hx:x∈L):∃p,iW f x p∧p≤L.length:=by
 have h0:∃n,0<n∧fR f n x=x∧n≤L.length:=by
  refine Classical.byContradiction fun kZ=>?_
  have AK:((Ω (L.length+1)).map fun i=>fR f i x).Nodup:=by
   rw[List.Nodup,List.pairwise_map];refine List.Pairwise.imp_of_mem ?_ (List.pairwise_lt_range (n:=L.length+1));intro i j hi hj dz e;rw[List.mem_range] at hi hj;refine kZ ⟨j - i,by omega,?_,by omega⟩
   have e1:fR f i (fR f (j - i) x)=fR f i x:=by
    rw[←ks,Nat.sub_add_cancel (by omega)];exact e.symm
   exact h.it_inj (h.it hx _) hx i e1
  have:=zH AK (B:=L) (fun y hy=>by
   obtain⟨i,_,rfl⟩:=Α.1 hy;exact h.it hx i)
  rw[Ρ,List.length_range] at this;omega
 obtain⟨n,⟨h1,h2,h3⟩,h4⟩:=least h0;exact⟨n,⟨h1,h2,fun i hi dz e=>h4 i dz ⟨hi,e,by omega⟩⟩,h3⟩
theorem iW.mul {x:α} {p:Nat} (h:iW f x p) (k:Nat):fR f (p*k) x=x:=by
 induction k with
 |zero=>rfl
 |succ k ih=>rw[Nat.mul_succ,ks,ih,h.back]
theorem iW.mod {x:α} {p:Nat} (h:iW f x p) (k:Nat):fR f k x=fR f (k % p) x:=by
 have:=ks (f:=f) (p*(k / p)) (k % p) x
 rw[Nat.div_add_mod,h.mul] at this;exact this
theorem iW.inj (h:Pm f L) {x:α} (hx:x∈L) {p:Nat} (hp:iW f x p) {i j:Nat} (hi:i<p) (hj:j<p) (e:fR f i x=fR f j x):i=j:=by
 have key:∀{i j:Nat},i<j→j<p→fR f i x=fR f j x→False:=fun {i j} dz hj e=>by
  have e1:fR f i (fR f (j - i) x)=fR f i x:=by
   rw[←ks,Nat.sub_add_cancel (by omega)];exact e.symm
  exact hp.ne (j - i) (by omega) (by omega) (h.it_inj (h.it hx _) hx i e1)
 rcases Nat.lt_trichotomy i j with q|q|q
 ·exact(key q hj e).elim
 ·exact q
 ·exact(key q hi e.symm).elim
theorem iW.uniq {x:α} {p q:Nat} (h:iW f x p) (k:iW f x q):p=q:=by
 rcases Nat.lt_trichotomy p q with e|e|e
 ·exact(k.ne p h.pos e h.back).elim
 ·exact e
 ·exact(h.ne q k.pos e k.back).elim
theorem Rl.refl (x:α):Rl f x x:=⟨0,rfl⟩
theorem Rl.trans {x y z:α} (h:Rl f x y) (k:Rl f y z):Rl f x z:=by
 obtain⟨i,rfl⟩:=h;obtain⟨j,rfl⟩:=k;exact⟨i+j,ks i j x⟩
theorem Rl.one (x:α):Rl f x (f x):=⟨1,rfl⟩
theorem Rl.mem (h:Pm f L) {x y:α} (hx:x∈L) (r:Rl f x y):y∈L:=by
 obtain⟨i,rfl⟩:=r;exact h.it hx i
theorem Rl.symm [DecidableEq α] (h:Pm f L) {x y:α} (hx:x∈L) (r:Rl f x y):Rl f y x:=by
 obtain⟨i,rfl⟩:=r;obtain⟨p,hp,_⟩:=h.per hx
 refine⟨p*i - i,?_⟩
 rw[←ks]
 have:i≤p*i:=Nat.le_mul_of_pos_left i hp.pos
 rw[show i+(p*i - i)=p*i by omega,hp.mul]
theorem IF (x:α) (p:Nat):(lA f x p).length=p:=by simp[lA]
theorem QZ {x y:α} {p:Nat} (hp:iW f x p):y∈lA f x p↔Rl f x y:=by
 unfold lA;rw[Α];constructor
 ·rintro⟨i,_,rfl⟩;exact⟨i,rfl⟩
 ·rintro⟨i,rfl⟩;exact⟨i % p,List.mem_range.2 (Nat.mod_lt _ hp.pos),(hp.mod i).symm⟩
theorem IJ [DecidableEq α] {x:α} {p:Nat} (hp:iW f x p):∀(k j:Nat),j<p→p - j≤k→l9 f x k (fR f j x)=(lA f x p).drop j
 |0,j,hj,hk=>by omega
 |k+1,j,hj,hk=>by
  have e1:(lA f x p).drop j=fR f j x::(lA f x p).drop (j+1):=by
   rw[List.drop_eq_getElem_cons (by simp[lA];omega)];simp[lA]
  rw[l9,e1,←dp (f:=f) j x]
  by_cases q:j+1=p
  ·rw[q,if_pos hp.back,List.drop_eq_nil_of_le (by simp[lA])]
  ·rw[if_neg (hp.ne (j+1) (by omega) (by omega)),IJ hp k (j+1) (by omega) (by omega)]
theorem pI [DecidableEq α] {x:α} {p k:Nat} (hp:iW f x p) (hk:p≤k):l9 f x k x=lA f x p:=IJ hp k 0 hp.pos (by omega)
theorem jW.le [DecidableEq α] (h:Pm f L) (h1:jW f L P) (h2:jW f L Q):P.length≤Q.length:=
 Ax (fun p q=>Rl f q p) P Q h1.nd (fun p hp=>h2.all p (h1.sub p hp)) (fun p hp p' WY q hq r r'=>h1.one p hp p' WY ((r.symm h (h2.sub q hq)).trans r'))
theorem jW.len [DecidableEq α] (h:Pm f L) (h1:jW f L P) (h2:jW f L Q):P.length=Q.length:=Nat.le_antisymm (h1.le h h2) (h2.le h h1)
def js [DecidableEq α] (f:α→α) (N:Nat):List α→List α→List (List α)
 |[],_=>[]
 |x::r,T=>if x∈T then js f N r T else l9 f x N x::js f N r (T++l9 f x N x)
theorem rl [DecidableEq α] (h:Pm f L) {N:Nat} (hN:L.length≤N):∀(l T:List α),(∀x∈l,x∈L)→(∀x∈T,x∈L)→(∀x∈T,∀y,Rl f x y→y∈T)→
 ∃P:List α,P.Sublist l∧js f N l T=P.map (fun x=>l9 f x N x)∧(∀p∈P,p∉T)∧(∀x∈l,x∈T∨∃p∈P,Rl f p x)∧(∀p∈P,∀q∈P,Rl f p q→p=q)∧P.Nodup
 |[],T,_,_,_=>⟨[],List.Sublist.refl _,rfl,by simp,by simp,by simp,List.nodup_nil⟩
 |x::r,T,hl,hT,hc=>by
  have hxL:=hl x (Jai ..);have hr:=fun y hy=>hl y (Jad _ hy)
  by_cases hx:x∈T
  ·obtain⟨P,h1,h2,h3,h4,h5,h6⟩:=rl h hN r T hr hT hc
   refine⟨P,h1.cons _,by rw[js,if_pos hx,h2],h3,fun y hy=>?_,h5,h6⟩
   rcases Η.1 hy with rfl|hy
   ·exact .inl hx
   ·exact h4 y hy
  ·obtain⟨p,hp,a8⟩:=h.per hxL;have eo:l9 f x N x=lA f x p:=pI hp (by omega);have eE:∀y,y∈T++lA f x p↔y∈T∨Rl f x y:=fun y=>by rw[List.mem_append,QZ hp]
   obtain⟨P,h1,h2,h3,h4,h5,h6⟩:=rl h hN r (T++l9 f x N x) hr (fun y hy=>by
    rw[eo,eE] at hy;exact hy.elim (hT y) (fun q=>q.mem h hxL)) (fun y hy z hz=>by
    rw[eo,eE] at hy ⊢;exact hy.elim (fun q=>.inl (hc y q z hz)) (fun q=>.inr (q.trans hz)))
   rw[eo] at h3 h4;have u4:∀q∈P,¬Rl f x q:=fun q hq r=>h3 q hq ((eE q).2 (.inr r))
   refine⟨x::P,h1.cons_cons _,by rw[js,if_neg hx,h2];rfl,fun q hq=>?_,fun y hy=>?_,fun a ha b hb r=>?_,?_⟩
   ·rcases Η.1 hq with rfl|hq
    ·exact hx
    ·exact fun m=>h3 q hq ((eE q).2 (.inl m))
   ·rcases Η.1 hy with rfl|hy
    ·exact .inr ⟨y,Jai ..,Rl.refl _⟩
    ·rcases h4 y hy with q|⟨p',WY,r⟩
     ·rcases (eE y).1 q with q|q
      ·exact .inl q
      ·exact .inr ⟨x,Jai ..,q⟩
     ·exact .inr ⟨p',Jad _ WY,r⟩
   ·rcases Η.1 ha with ea|Xu
    ·rcases Η.1 hb with eb|aP
     ·rw[ea,eb]
     ·exact(u4 b aP (ea▸r)).elim
    ·rcases Η.1 hb with eb|aP
     ·exact(u4 a Xu (eb▸r.symm h (hr a (h1.subset Xu)))).elim
     ·exact h5 a Xu b aP r
   ·exact JaJ.2 ⟨fun hq=>u4 x hq (Rl.refl x),h6⟩
theorem IX [DecidableEq α] (h:Pm f L) {N:Nat} (hN:L.length≤N) (l:List α) (hl:∀x,x∈l↔x∈L):∃P,jW f L P∧js f N l []=P.map (fun x=>l9 f x N x):=by
 obtain⟨P,h1,h2,h3,h4,h5,h6⟩:=rl h hN l [] (fun x hx=>(hl x).1 hx) (by simp) (by simp)
 refine⟨P,⟨h6,fun p hp=>(hl p).1 (h1.subset hp),fun x hx=>?_,h5⟩,h2⟩
 rcases h4 x ((hl x).2 hx) with q|q
 ·cases q
 ·exact q
end
section
variable {α:Type} [DecidableEq α] {f f':α→α} {L L' P:List α}
theorem iW.up {x:α} {p:Nat} (hp:iW f x p) {y:α} (r:Rl f x y):∃i,0<i∧i≤p∧fR f i x=y:=by
 obtain⟨i,rfl⟩:=r
 by_cases q:i % p=0
 ·exact⟨p,hp.pos,Nat.le_refl _,by rw[hp.back,hp.mod i,q];rfl⟩
 ·exact⟨i % p,by omega,Nat.le_of_lt (Nat.mod_lt _ hp.pos),(hp.mod i).symm⟩
end
section
open Go.RowKit Go.Maps
structure FW (P:Program) (K:TypeId) (κ:Type) where
 enc:κ→Value
 kl:κ→Lit
 wf:κ→Prop
 keyed:Keyed P K
 key:∀x,wf x→keyOf P K (enc x)=some (kl x)
 inj:∀x y,wf x→wf y→kl x=kl y→x=y
 lit:∀x,wf x→WideAt.IsKeyLit (kl x)
end
section
open Go.RowKit Go.Maps
abbrev I2:=Int × Int
end
def n1 (x:Int):List ψ:=[J x]
theorem nW (x:Int):(n1 x).length=1:=rfl
def cR (L:List Int) (a b:Int):List Int:=L.map fun x=>if x=a∨x=b then min a b else x
abbrev St:=List Int × (I2→Option Nat)
def jr (i:Nat) (s:St) (x:D):St:=match s.2 (x.1,x.2.1) with
 |some j=>(cR s.1 (s.1.getD i 0) (s.1.getD j 0),s.2)
 |none=>(s.1,fun y=>if y=(x.1,x.2.1) then ζ i else s.2 y)
def ta:Nat→List VC→St→St
 |_,[],s=>s
 |i,v::r,s=>ta (i+1) r (v.2.1.2.2.2.foldl (jr i) s)
def lL (n:Nat):List Int:=(Ω n).map fun k:Nat=>(k:Int)
def dm (Vs:List VC):List Int:=(ta 0 Vs (lL Vs.length,fun _=>ε)).1
theorem kN (L:List Int) (a b:Int):(cR L a b).length=L.length:=by simp[cR]
structure ql (n:Nat) (s:St):Prop where
 len:s.1.length=n
 lt:∀y j,s.2 y=ζ j→j<n
theorem ql.step {n i:Nat} {s:St} (h:ql n s) (hi:i<n) (x:D):ql n (jr i s x):=by
 unfold jr;split
 ·exact⟨by rw[kN];exact h.len,h.lt⟩
 ·refine⟨h.len,fun y j hy=>?_⟩
  simp only at hy;split at hy
  ·obtain rfl:=Μ hy;exact hi
  ·exact h.lt y j hy
def fm:Nat→List VC→I2→Int
 |_,[],_=> -1
 |j,v::r,x=>if v.1=x then(j:Int) else fm (j+1) r x
theorem B4:∀(Vs:List VC) (i:Nat) (s:St),(ta i Vs s).1.length=s.1.length
 |[],_,_=>rfl
 |v::r,i,s=>by
  rw[ta,B4 r];generalize v.2.1.2.2.2=R
  induction R generalizing s with
  |nil=>rfl
  |cons x R ih=>
   rw[List.foldl_cons,ih];unfold jr;split
   ·exact kN _ _ _
   ·rfl
theorem mx (Vs:List VC):(dm Vs).length=Vs.length:=by
 rw[dm,B4];simp[lL]
end Go.Proofs.YtpdpbfmiahjiiaaGreat
