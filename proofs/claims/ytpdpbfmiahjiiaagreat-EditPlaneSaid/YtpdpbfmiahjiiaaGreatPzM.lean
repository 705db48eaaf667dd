/- Several texts in one. -/
import Derived.Test.YtpdpbfmiahjiiaaGreatPzA
import Derived.Test.YtpdpbfmiahjiiaaGreatPzE
import Derived.Test.YtpdpbfmiahjiiaaGreatPzH
import Derived.Test.YtpdpbfmiahjiiaaGreatPzI
import Derived.Test.YtpdpbfmiahjiiaaGreatPzL
set_option linter.unusedSectionVars false
set_option linter.unusedSimpArgs false
set_option linter.unusedVariables false
set_option maxRecDepth 100000
set_option maxHeartbeats 16000000
namespace Go.Proofs.YtpdpbfmiahjiiaaGreat
open Go.RowKit
open _root_.Go.Value renaming slice→γ
open _root_.Go.Obj renaming cells→δ
open _root_.Option renaming none→ε,some→ζ
open _root_.Go.Proofs.Tryz renaming prog→η
open _root_.List renaming getElem?_eq_getElem→θ,map_cons→ι,getElem?_eq_some_iff→ν,getD_eq_getElem?_getD→χ,mem_of_getElem?→ω,mem_map→Α,mem_cons→Η,length_map→Ρ,getElem?_map→Ψ,mem_cons_of_mem→Jad,mem_cons_self→Jai,mem_flatMap→Jat,mem_filter→JaC,nodup_cons→JaJ,map_congr_left→JaV,map_map→JaW,pairwise_map→Jbg,not_mem_nil→Jbh,length_pos_of_mem→Jbk
open _root_.Bool renaming false→ρ,true→τ,and_eq_true→Jar
open _root_.ByteArray renaming empty→Jaf
def Q8 (n:Int):dR:=⟨1,1,n,0,0,0,0,0,0,0,0,0,0,0,0,0,0,ρ,⟨#[]⟩,0⟩
def rmO:dR:=⟨2,1,1,0,0,0,0,0,0,0,0,0,0,0,0,0,0,ρ,⟨#[]⟩,0⟩
theorem Wn:la dv [Q8 1]=(([((1,1),[],Jaf,0)],[],[]),0):=rfl
theorem U5:yi ([((1,1),[],Jaf,0)],[],[]) rmO=(dv,0):=rfl
theorem aaq:gD ([((1,1),[],Jaf,0)],[],[]):=dy.kind (o:=Q8 1) rfl
theorem UW (W:World):bz W ε 0 0 [] ε 0 0 []:=⟨Bj _ _ _,Bj _ _ _,fun x hx=>by cases hx⟩
theorem mh.gone {W:World} {lo:Nat} {A:Option Addr} {n c:Nat} {Vs:List VC} {B:Option Addr} {m k:Nat} {Es:List EC} {C:Option Addr} {r rc:Nat} {G:List Gn} (h:mh W lo A n c Vs B m k Es C r rc G):bg W W.heap.size 6 C r rc (ah cZ G):=aK h.gn
theorem Ab (n:Int) (W:World):Calls η 42 #[J n] W fun e w'=>∃g,e=.returned (.agg #[γ (ζ ⟨g,0,ε⟩) 1 1])∧Whole w' g 36 (ak (Q8 n))∧Below W.heap.size W w':=by
 go_enter Tryz.func42,Tryz.ntmps42;go_wp2;have h0:Whole ((W.alloc (δ #[γ (ζ ⟨W.heap.size+1,0,ε⟩) 1 1] 49)).alloc (δ (ak (Q8 n)).toArray 36)) W.heap.size 49 [γ (ζ ⟨W.heap.size+1,0,ε⟩) 1 1]:=(Whole.new_ W 49 [_]).al _;have h1:Whole ((W.alloc (δ #[γ (ζ ⟨W.heap.size+1,0,ε⟩) 1 1] 49)).alloc (δ (ak (Q8 n)).toArray 36)) (W.heap.size+1) 36 (ak (Q8 n)):=Whole.new2 (by simp);have hb:=aI (az W (δ #[γ (ζ ⟨W.heap.size+1,0,ε⟩) 1 1] 49)) (δ (ak (Q8 n)).toArray 36);exact dO rfl W.heap.size rfl h0 Tryz.underlying49 rfl (by kernel_rfl) rfl ⟨_,rfl,h1,hb⟩
theorem CA (W:World):Calls η 12 #[] W fun e w'=>e=.returned (.bool τ)∧Below W.heap.size W w':=by
 have bw:Hid (Below W.heap.size W W):=qh (Below.refl _ _);go_enter Tryz.func12,Tryz.ntmps12
 go_upto_region 2 with (first
  |(go_at_call 17
    refine(uG _).mono ?_
    rintro e w1 ⟨rfl,cP⟩;have bE:=qh (ag bw.out cP);clear cP bw)
  |(go_at_call 42
    refine(Ab 1 _).mono ?_
    rintro e w2 ⟨g,rfl,fT,aP⟩;have bG:=qh (ag bE.out aP);have HW2:=qh fT;clear fT aP bE)
  |(go_at_call 18
    refine(pd (UW _) (Bj _ _ _) dy _ 1 1 [Q8 1] (by rw[xd];exact bg.of_whole HW2.out rfl) (by decide)).mono ?_
    rintro e w3 ⟨bA,h3⟩;have hE:la (([]:List VC).map vS,[],[]) [Q8 1]=_:=Wn;rw[hE] at h3;obtain⟨-,A,n,c,Vs,B,m,k,Es,C,r,rc,G,rfl,u6,AQ⟩:=h3.resolve_right (fun h=>h.1 rfl);have bB:=qh (ag bG.out bA);have gE:=qh u6;have sO:=qh AQ;clear bA h3 hE u6 AQ bG HW2))
 have hn:n=1:=by
  have h1:=gE.out.dg.v.rlen aS (by decide);have h2:=congrArg (fun z:SS=>z.1.length) sO.out;have h3:(Vs.map vS).length=1:=h2;rw[Ρ] at h3;omega
 subst hn;have j8:=qh (gE.out.up (az w3 (δ #[γ A 1 c,γ B m k,γ C r rc] 28)));have kC:=qh (aI bB.out (δ #[γ A 1 c,γ B m k,γ C r rc] 28));have eY:=qh (Whole.new_ w3 28 [γ A 1 c,γ B m k,γ C r rc]);obtain⟨w4,NP⟩:=aB (w3.alloc (δ #[γ A 1 c,γ B m k,γ C r rc] 28));obtain⟨b4,BJ⟩:=aB w3.heap.size;rw[NP] at j8 kC eY ⊢;rw[BJ] at eY ⊢;have TL:Hid (W.heap.size≤b4):=qh (BJ▸bB.out.size);clear NP BJ gE bB;have x0:=eY.out.cell (i:=0) rfl;have x1:=eY.out.cell (i:=1) rfl;have x2:=eY.out.cell (i:=2) rfl;have XZ:Hid (gD (Vs.map vS,Es,G)):=qh (by rw[sO.out];exact aaq)
 go_upto_region 3 with (first
  |(go_at_call 14
    refine(JK j8.out.dg j8.out.gone XZ.out rmO).mono ?_
    rintro e w5 ⟨fP,h5⟩;have hE:yi (Vs.map vS,Es,G) rmO=_:=(congrArg (fun z=>yi z rmO) sO.out).trans U5;rw[hE] at h5;obtain⟨-,A',n',c',Vs',B',m',k',Es',C',r',iv,G',rfl,SD,he5⟩:=h5.resolve_right (fun h=>h.1 rfl);have kF:=qh (ag kC.out fP);have oK:=qh (eY.out.bl fP)
    have hn':n'=0:=by
     have h1:=SD.dg.v.rlen aS (by decide);have h2:=congrArg (fun z:SS=>z.1.length) he5;have h3:(Vs'.map vS).length=0:=h2;rw[Ρ] at h3;omega
    subst hn';clear fP h5 hE SD he5 kC eY j8 XZ x0 x1 x2))
 have y0:=(oK.out.al (δ #[γ A' 0 c',γ B' m' k',γ C' r' iv] 28)).cell (i:=0) rfl;have s7:=qh (aI kF.out (δ #[γ A' 0 c',γ B' m' k',γ C' r' iv] 28));clear kF oK;go_wp2;go_ret;exact⟨rfl,s7.out⟩
def PG (V:List VS) (g:Nm→Int):Prop:=∀u∈V,∀v∈V,∀d∈u.2.1,∀e∈v.2.1,dI d=dI e→g u.1=g v.1
def nI (V:List VS) (x y:Nm):Prop:=∀g,PG V g→g x=g y
theorem nI.refl (V:List VS) (x:Nm):nI V x x:=fun _ _=>rfl
theorem nI.symm {V:List VS} {x y:Nm} (h:nI V x y):nI V y x:=fun g hg=>(h g hg).symm
theorem nI.trans {V:List VS} {x y z:Nm} (h:nI V x y) (k:nI V y z):nI V x z:=fun g hg=>(h g hg).trans (k g hg)
structure yn (V:List VS) (P:List Nm):Prop where
 nd:P.Nodup
 sub:∀p∈P,p∈V.map (·.1)
 all:∀u∈V,∃p∈P,nI V p u.1
 one:∀p∈P,∀q∈P,nI V p q→p=q
theorem yn.len {V:List VS} {P Q:List Nm} (h:yn V P) (k:yn V Q):P.length=Q.length:=by
 have key:∀{P Q:List Nm},yn V P→yn V Q→P.length≤Q.length:=fun {P Q} h k=>
  Ax (fun p q=>nI V p q) P Q h.nd (fun p hp=>by
   obtain⟨u,hu,e⟩:=Α.1 (h.sub p hp);obtain⟨q,hq,t⟩:=k.all u hu;have e:u.1=p:=e;rw[e] at t;exact⟨q,hq,t.symm⟩) (fun a ha b hb q _ r1 r2=>h.one a ha b hb (r1.trans r2.symm))
 exact Nat.le_antisymm (key h k) (key k h)
theorem AR {V:List VS} (hk:(V.map (·.1)).Nodup) {i k:Nat} {u v:VS} (hu:V[i]? =ζ u) (hv:V[k]? =ζ v) (e:u.1=v.1):i=k:=by
 have h1:(V.map (·.1))[i]? =ζ u.1:=by rw[Ψ,hu];rfl
 have h2:(V.map (·.1))[k]? =ζ u.1:=by rw[Ψ,hv,e];rfl
 have hi:=(ν.1 h1).1;exact(List.getElem?_inj hi hk).1 (h1.trans h2.symm)
theorem IG {Vs:List VC} {i:Nat} {y:I2}:Pj Vs i y↔∃u,(Vs.map vS)[i]? =ζ u∧∃d∈u.2.1,y=dI d:=by
 constructor
 ·rintro⟨v,hv,d,hd,e⟩;exact⟨vS v,by rw[Ψ,hv];rfl,d,hd,e⟩
 ·rintro⟨u,hu,d,hd,e⟩;rw[Ψ] at hu;obtain⟨v,hv,rfl⟩:=Option.map_eq_some_iff.1 hu;exact⟨v,hv,d,hd,e⟩
theorem R9 {Vs:List VC} (hk:(Vs.map (·.1)).Nodup) {i k:Nat} {u v:VS} (hu:(Vs.map vS)[i]? =ζ u) (hv:(Vs.map vS)[k]? =ζ v):(dm Vs).getD i 0=(dm Vs).getD k 0↔nI (Vs.map vS) u.1 v.1:=by
 have hL:=mz Vs;have vT:((Vs.map vS).map (·.1)).Nodup:=by rw[iB];exact hk
 have hl:(Vs.map vS).length=Vs.length:=Ρ ..;have hi:=(ν.1 hu).1;have hkl:=(ν.1 hv).1;constructor
 ·intro e g hg
  have hc:Co Vs.length (Sh Vs) (fun j=>g ((Vs.map vS).getD j (vS zV)).1):=by
   rintro a b ha hb ⟨y,h1,h2⟩;obtain⟨p,hp,d,hd,e1⟩:=IG.1 h1;obtain⟨q,hq,d2,lB,e2⟩:=IG.1 h2;show g ((Vs.map vS).getD a _).1=g ((Vs.map vS).getD b _).1;rw[χ,χ,hp,hq];exact hg p (ω hp) q (ω hq) d hd d2 lB (e1.symm.trans e2)
  have:=hL.fin _ hc i k (by omega) (by omega) e
  simp only[χ,hu,hv,Option.getD_some] at this;exact this
 ·intro h
  have hg:PG (Vs.map vS) (fun x=>(dm Vs).getD ((Vs.map vS).findIdx (fun w=>decide (w.1=x))) 0):=by
   intro p hp q hq d hd d2 lB e;obtain⟨a,ha⟩:=List.getElem?_of_mem hp;obtain⟨b,hb⟩:=List.getElem?_of_mem hq
   have f:∀{a:Nat} {p:VS},(Vs.map vS)[a]? =ζ p→(Vs.map vS).findIdx (fun w=>decide (w.1=p.1))=a:=fun {a p} ha=>by
    obtain⟨hi,ZJ⟩:=ν.1 ha
    refine(List.findIdx_eq hi).2 ⟨by rw[ZJ];exact decide_eq_true rfl,fun j hj=>decide_eq_false (fun e=>?_)⟩
    have:=AR vT (θ (show j<(Vs.map vS).length by omega)) ha e
    omega
   show(dm Vs).getD _ 0=(dm Vs).getD _ 0
   rw[f ha,f hb];have h1:=(ν.1 ha).1;have h2:=(ν.1 hb).1;exact hL.co a b (by omega) (by omega) ⟨dI d,IG.2 ⟨p,ha,d,hd,rfl⟩,IG.2 ⟨q,hb,d2,lB,e⟩⟩
  have f:∀{a:Nat} {p:VS},(Vs.map vS)[a]? =ζ p→(Vs.map vS).findIdx (fun w=>decide (w.1=p.1))=a:=fun {a p} ha=>by
   obtain⟨hi,ZJ⟩:=ν.1 ha
   refine(List.findIdx_eq hi).2 ⟨by rw[ZJ];exact decide_eq_true rfl,fun j hj=>decide_eq_false (fun e=>?_)⟩
   have:=AR vT (θ (show j<(Vs.map vS).length by omega)) ha e
   omega
  have:=h _ hg
  simp only[f hu,f hv] at this;exact this
theorem Aj {Vs:List VC} (hk:(Vs.map (·.1)).Nodup):∃P,yn (Vs.map vS) P∧fg (dm Vs)=P.length:=by
 have hL:=mz Vs;have vT:((Vs.map vS).map (·.1)).Nodup:=by rw[iB];exact hk
 have hl:(Vs.map vS).length=Vs.length:=Ρ ..;obtain⟨V,gV⟩:=aB (Vs.map vS);have T:=fun {i k:Nat} {u v:VS}=>R9 hk (i:=i) (k:=k) (u:=u) (v:=v)
 rw[gV] at vT hl T ⊢;obtain⟨L,gL⟩:=aB (dm Vs);rw[gL] at T hL ⊢
 have gt:∀{i:Nat},i<Vs.length→V[i]? =ζ (V[i]?.getD default):=fun {i} hi=>by
  rw[θ (by omega:i<V.length)];rfl
 obtain⟨Q,gQ⟩:=aB ((List.range L.length).filter (cv L))
 have hQ:∀i,i∈Q↔i<Vs.length∧L.getD i 0=(i:Int):=fun i=>by
  rw[←gQ,JaC,List.mem_range,hL.len,cv,beq_iff_eq]
 refine⟨Q.map (fun i=>(V[i]?.getD default).1),⟨?_,fun p hp=>?_,fun u hu=>?_,fun p hp q hq t=>?_⟩,?_⟩
 ·rw[List.Nodup,Jbg]
  have:Q.Nodup:=gQ▸List.nodup_range.filter _
  refine this.imp_of_mem (fun {a b} ha hb s8 e=>s8 ?_);exact AR vT (gt ((hQ a).1 ha).1) (gt ((hQ b).1 hb).1) e
 ·obtain⟨i,hi,rfl⟩:=Α.1 hp;exact Α.2 ⟨_,ω (gt ((hQ i).1 hi).1),rfl⟩
 ·obtain⟨i,hi⟩:=List.getElem?_of_mem hu;have jm:=(ν.1 hi).1;obtain⟨h0,h1,h2⟩:=hL.ok i (by rw[hL.len];omega);obtain⟨r,hr⟩:∃r:Nat,L.getD i 0=(r:Int):=⟨(L.getD i 0).toNat,by omega⟩
  rw[hr] at h1 h2;rw[Int.toNat_natCast] at h2;have kc:r<Vs.length:=by omega
  refine⟨_,Α.2 ⟨r,(hQ r).2 ⟨kc,h2⟩,rfl⟩,?_⟩
  exact(T (gt kc) hi).1 (by rw[h2,hr])
 ·obtain⟨i,hi,rfl⟩:=Α.1 hp;obtain⟨k,hk,rfl⟩:=Α.1 hq;obtain⟨i1,i2⟩:=(hQ i).1 hi;obtain⟨k1,k2⟩:=(hQ k).1 hk
  have:=(T (gt i1) (gt k1)).2 t
  rw[i2,k2] at this
  have:i=k:=by omega
  rw[this]
 ·rw[Ρ,←gQ,fg,List.countP_eq_length_filter]
theorem zn {Vs:List VC} (hk:(Vs.map (·.1)).Nodup) {P:List Nm} (h:yn (Vs.map vS) P):fg (dm Vs)=P.length:=by
 obtain⟨Q,hQ,e⟩:=Aj hk;rw[e,hQ.len h]
theorem Di {R:List D} {f:D→D} (hf:∀a∈R,∀b∈R,f a=f b→a=b) {y:D} (hy:y∈R):ee (R.map f) (f y)=f (ee R y):=by
 have hl:=Jbk hy
 have hi:(R.map f).idxOf (f y)=R.idxOf y:=by
  induction R with
  |nil=>cases hy
  |cons a R ih=>
   by_cases e:a=y
   ·subst e;rw[ι,List.idxOf_cons_self,List.idxOf_cons_self]
   ·have hy':y∈R:=(Η.1 hy).resolve_left (fun q=>e q.symm);have e2:¬f a=f y:=fun q=>e (hf a Jai y hy q)
    rw[ι,List.idxOf_cons,List.idxOf_cons,show(f a==f y)=ρ by simpa using e2,show(a==y)=ρ by simpa using e];simp only[cond_false];rw[ih (fun a ha b hb=>hf a (Jad _ ha) b (Jad _ hb)) hy' (Jbk hy')]
 have hm:(R.idxOf y+1) % R.length<R.length:=Nat.mod_lt _ hl;unfold ee;rw[hi,Ρ,χ,χ,Ψ,θ hm];rfl
structure s5 (V V':List VS) (w:Nm) (m k:D):Prop where
 there:∃u∈V,m∈u.2.1
 edge:¬dI m=dI k
 nok:∀u∈V,∀d∈u.2.1,¬dI d=dI k
 now:∀u∈V,¬u.1=w
 keys:∀x,x∈V'.map (·.1)↔x=w∨x∈V.map (·.1)
 wr:∀u∈V',u.1=w→ou [m,k] u.2.1
 old:∀u∈V,∀u'∈V',u'.1=u.1→ou (u.2.1.map (fun d=>if d=m then(k.1,k.2.1,1 - k.2.2) else d)) u'.2.1
theorem l8 {A B:List D} (h:ou A B) (d:D):d∈A↔d∈B:=h.mem d
section
variable {V V':List VS} {w:Nm} {m k:D}
theorem s5.get (h:s5 V V' w m k) {u':VS} (hu:u'∈V') (hw:¬u'.1=w):∃u∈V,u'.1=u.1∧∀d,d∈u'.2.1↔(d∈u.2.1∧d≠m)∨(d=(k.1,k.2.1,1 - k.2.2)∧m∈u.2.1):=by
 rcases (h.keys u'.1).1 (Α.2 ⟨u',hu,rfl⟩) with e|e
 ·exact absurd e hw
 ·obtain⟨u,hv,e⟩:=Α.1 e
  refine⟨u,hv,e.symm,fun d=>?_⟩
  rw[←l8 (h.old u hv u' hu e.symm),Α];constructor
  ·rintro⟨a,ha,rfl⟩
   by_cases q:a=m
   ·rw[if_pos q];exact .inr ⟨rfl,q▸ha⟩
   ·rw[if_neg q];exact .inl ⟨ha,q⟩
  ·rintro (⟨h1,h2⟩|⟨rfl,h2⟩)
   ·exact⟨d,h1,if_neg h2⟩
   ·exact⟨m,h2,if_pos rfl⟩
theorem s5.got (h:s5 V V' w m k) {u:VS} (hu:u∈V):∃u'∈V',u'.1=u.1:=by
 have:=(h.keys u.1).2 (.inr (Α.2 ⟨u,hu,rfl⟩))
 obtain⟨u',h1,h2⟩:=Α.1 this;exact⟨u',h1,h2⟩
theorem s5.wat (h:s5 V V' w m k):∃u∈V',u.1=w∧∀d,d∈u.2.1↔d=m∨d=k:=by
 obtain⟨u,h1,h2⟩:=Α.1 ((h.keys w).2 (.inl rfl));exact⟨u,h1,h2,fun d=>by rw[←l8 (h.wr u h1 h2)];simp⟩
theorem s5.up (h:s5 V V' w m k) (hk:(V.map (·.1)).Nodup) (vT:(V'.map (·.1)).Nodup) (mX:∀u∈V,∀v∈V,m∈u.2.1→m∈v.2.1→u=v) {g:Nm→Int} (hg:PG V' g):PG V g:=by
 obtain⟨W,hW,eW,mW⟩:=h.wat;intro u hu v hv d hd e he q;obtain⟨u',qY,eu⟩:=h.got hu;obtain⟨v',Lo,ev⟩:=h.got hv;have nu:¬u'.1=w:=fun e=>h.now u hu (eu.symm.trans e)
 have nv:¬v'.1=w:=fun e=>h.now v hv (ev.symm.trans e)
 have mu:∀d,d∈u'.2.1↔(d∈u.2.1∧d≠m)∨(d=(k.1,k.2.1,1 - k.2.2)∧m∈u.2.1):=by
  obtain⟨u2,h2,e2,m2⟩:=h.get qY nu;rw[fi hk hu h2 (eu.symm.trans e2)];exact m2
 have mv:∀d,d∈v'.2.1↔(d∈v.2.1∧d≠m)∨(d=(k.1,k.2.1,1 - k.2.2)∧m∈v.2.1):=by
  obtain⟨u2,h2,e2,m2⟩:=h.get Lo nv;rw[fi hk hv h2 (ev.symm.trans e2)];exact m2
 have ek:dI k=dI ((k.1,k.2.1,1 - k.2.2):D):=rfl
 have tow:∀{u':VS},u'∈V'→(k.1,k.2.1,1 - k.2.2)∈u'.2.1→g u'.1=g w:=fun {u'} qY hm=>by
  rw[hg u' qY W hW _ hm k ((mW k).2 (.inr rfl)) ek.symm,eW]
 have tom:∀{u':VS},u'∈V'→∀d,d∈u'.2.1→dI d=dI m→g u'.1=g w:=fun {u'} qY d hm e=>by
  rw[hg u' qY W hW d hm m ((mW m).2 (.inl rfl)) e,eW]
 rw[←eu,←ev]
 by_cases d1:d=m
 ·have a1:=tow qY ((mu _).2 (.inr ⟨rfl,d1▸hd⟩))
  by_cases e1:e=m
  ·rw[a1,tow Lo ((mv _).2 (.inr ⟨rfl,e1▸he⟩))]
  ·rw[a1,tom Lo e ((mv _).2 (.inl ⟨he,e1⟩)) (by rw[←q,d1])]
 ·by_cases e1:e=m
  ·rw[tow Lo ((mv _).2 (.inr ⟨rfl,e1▸he⟩)),tom qY d ((mu _).2 (.inl ⟨hd,d1⟩)) (by rw[q,e1])]
  ·exact hg u' qY v' Lo d ((mu _).2 (.inl ⟨hd,d1⟩)) e ((mv _).2 (.inl ⟨he,e1⟩)) q
theorem s5.down (h:s5 V V' w m k) {a:VS} (ha:a∈V) (vl:m∈a.2.1) {g:Nm→Int} (hg:PG V g):PG V' (fun x=>if x=w then g a.1 else g x):=by
 have ek:dI ((k.1,k.2.1,1 - k.2.2):D)=dI k:=rfl
 have one:∀u'∈V',∀d∈u'.2.1,(dI d=dI k→(if u'.1=w then g a.1 else g u'.1)=g a.1)∧(∀u∈V,∀e∈u.2.1,dI d=dI e→(if u'.1=w then g a.1 else g u'.1)=g u.1):=fun u' qY d hd=>by
  by_cases q:u'.1=w
  ·rw[if_pos q];have lB:=(l8 (h.wr u' qY q) d).2 hd;simp only[Η,Jbh,or_false] at lB
   refine⟨fun _=>rfl,fun u hu e he qe=>?_⟩
   rcases lB with rfl|rfl
   ·exact hg a ha u hu d vl e he qe
   ·exact absurd qe.symm (h.nok u hu e he)
  ·rw[if_neg q];obtain⟨u2,h2,e2,m2⟩:=h.get qY q;rw[e2];rcases (m2 d).1 hd with⟨d1,d2⟩|⟨rfl,d2⟩
   ·exact⟨fun e=>absurd e (h.nok u2 h2 d d1),fun u hu e he qe=>hg u2 h2 u hu d d1 e he qe⟩
   ·refine⟨fun _=>hg u2 h2 a ha m d2 m vl rfl,fun u hu e he qe=>absurd (qe.symm.trans ek) (h.nok u hu e he)⟩
 intro u hu v hv d hd e he q
 show(if u.1=w then g a.1 else g u.1)=(if v.1=w then g a.1 else g v.1)
 by_cases qk:dI d=dI k
 ·rw[(one u hu d hd).1 qk,(one v hv e he).1 (q▸qk)]
 ·have:∃b∈V,∃c∈b.2.1,dI d=dI c:=by
   by_cases qw:u.1=w
   ·have lB:=(l8 (h.wr u hu qw) d).2 hd;simp only[Η,Jbh,or_false] at lB;rcases lB with rfl|rfl
    ·exact⟨a,ha,d,vl,rfl⟩
    ·exact absurd rfl qk
   ·obtain⟨u2,h2,e2,m2⟩:=h.get hu qw;rcases (m2 d).1 hd with⟨d1,d2⟩|⟨rfl,d2⟩
    ·exact⟨u2,h2,d,d1,rfl⟩
    ·exact absurd ek qk
  obtain⟨b,hb,c,hc,qc⟩:=this;rw[(one u hu d hd).2 b hb c hc qc,(one v hv e he).2 b hb c hc (q.symm.trans qc)]
theorem s5.sys (h:s5 V V' w m k) (hk:(V.map (·.1)).Nodup) (vT:(V'.map (·.1)).Nodup) (mX:∀u∈V,∀v∈V,m∈u.2.1→m∈v.2.1→u=v) {P:List Nm} (hP:yn V P):yn V' P:=by
 obtain⟨a,ha,vl⟩:=h.there;obtain⟨W,hW,eW,mW⟩:=h.wat
 have nw:∀x∈V.map (·.1),¬x=w:=fun x hx=>by
  obtain⟨u,hu,rfl⟩:=Α.1 hx;exact h.now u hu
 have KI:∀{x y:Nm},nI V x y→nI V' x y:=fun t g hg=>t g (h.up hk vT mX hg)
 have Rm:∀{x y:Nm},¬x=w→¬y=w→nI V' x y→nI V x y:=fun {x y} nx ny t g hg=>by
  have:=t _ (h.down ha vl hg)
  simp only[if_neg nx,if_neg ny] at this;exact this
 refine⟨hP.nd,fun p hp=>(h.keys p).2 (.inr (hP.sub p hp)),fun u hu=>?_,fun p hp q hq t=>hP.one p hp q hq (Rm (nw p (hP.sub p hp)) (nw q (hP.sub q hq)) t)⟩
 by_cases q:u.1=w
 ·obtain⟨p,hp,t⟩:=hP.all a ha
  refine⟨p,hp,(KI t).trans (fun g hg=>?_)⟩
  obtain⟨a',Xq,ea⟩:=h.got ha;have na:¬a'.1=w:=fun e=>h.now a ha (ea.symm.trans e)
  obtain⟨u2,h2,e2,m2⟩:=h.get Xq na
  have:u2=a:=fi hk h2 ha (e2.symm.trans ea)
  subst this;rw[q,←eW,←ea];exact hg a' Xq W hW _ ((m2 _).2 (.inr ⟨rfl,vl⟩)) k ((mW k).2 (.inr rfl)) rfl
 ·obtain⟨u2,h2,e2,-⟩:=h.get hu q;obtain⟨p,hp,t⟩:=hP.all u2 h2;exact⟨p,hp,by rw[e2];exact KI t⟩
end
theorem rH {α:Type} [DecidableEq α] {A B:List α} (ha:A.Nodup) (hb:B.Nodup) (h:∀x,x∈A↔x∈B):A.length=B.length:=Nat.le_antisymm (zH ha (fun x hx=>(h x).1 hx)) (zH hb (fun x hx=>(h x).2 hx))
def tx (V:List VS):List Nm:=(V.filter (fun s=>decide (s.2.1=[]))).map (·.1)
theorem lq {V:List VS} {x:Nm}:x∈tx V↔∃u∈V,u.2.1=[]∧u.1=x:=by
 unfold tx;rw[Α];constructor
 ·rintro⟨u,hu,e⟩;obtain⟨h1,h2⟩:=JaC.1 hu;exact⟨u,h1,of_decide_eq_true h2,e⟩
 ·rintro⟨u,hu,h,e⟩;exact⟨u,JaC.2 ⟨hu,decide_eq_true h⟩,e⟩
theorem kA {V:List VS} (hk:(V.map (·.1)).Nodup):(tx V).Nodup:=(List.filter_sublist.map _).nodup hk
theorem vn (Vs:List VC):bF Vs=(tx (Vs.map vS)).length:=by rw[wY,tx,Ρ]
theorem fF {Vs:List VC} {Es:List EC} (h:aG Vs Es):((Vs.map vS).map (·.1)).Nodup:=by rw[iB];exact dh h.rv
theorem WB {Vs:List VC} {Es:List EC} (h:aG Vs Es) {m:D}:∀u∈Vs.map vS,∀v∈Vs.map vS,m∈u.2.1→m∈v.2.1→u=v:=fun u hu v hv h1 h2=>dY (dN Vs▸h.once) hu hv h1 h2
theorem Ib {m k:D} (h:¬m=k):ee [m,k] m=k∧ee [m,k] k=m:=by
 have e1:[m,k].idxOf m=0:=List.idxOf_cons_self
 have e2:[m,k].idxOf k=1:=by
  rw[List.idxOf_cons,show(m==k)=ρ by simpa using h];simp
 unfold ee;rw[e1,e2];exact⟨by simp,by simp⟩
section
variable {Vs Vs':List VC} {Es Es':List EC} {w:Nm} {m k:D}
theorem s5.mem (h:s5 (Vs.map vS) (Vs'.map vS) w m k) (d:D):d∈ao Vs'↔d∈ao Vs∨d=k∨d=dw k:=by
 rw[dN,dN,Jat,Jat];obtain⟨a,ha,vl⟩:=h.there;obtain⟨W,hW,eW,mW⟩:=h.wat;constructor
 ·rintro⟨u,hu,hd⟩
  by_cases q:u.1=w
  ·have lB:=(l8 (h.wr u hu q) d).2 hd;simp only[Η,Jbh,or_false] at lB;rcases lB with rfl|rfl
   ·exact .inl ⟨a,ha,vl⟩
   ·exact .inr (.inl rfl)
  ·obtain⟨u2,h2,e2,m2⟩:=h.get hu q;rcases (m2 d).1 hd with⟨d1,d2⟩|⟨rfl,d2⟩
   ·exact .inl ⟨u2,h2,d1⟩
   ·exact .inr (.inr rfl)
 ·have old:∀u∈Vs.map vS,∀d,(d∈u.2.1∧d≠m)∨(d=(k.1,k.2.1,1 - k.2.2)∧m∈u.2.1)→∃u∈Vs'.map vS,d∈u.2.1:=fun u hu d hd=>by
   obtain⟨u',qY,e⟩:=h.got hu
   refine⟨u',qY,?_⟩
   rw[←l8 (h.old u hu u' qY e),Α];rcases hd with⟨d1,d2⟩|⟨rfl,d2⟩
   ·exact⟨d,d1,if_neg d2⟩
   ·exact⟨m,d2,if_pos rfl⟩
  rintro (⟨u,hu,hd⟩|rfl|rfl)
  ·by_cases q:d=m
   ·exact⟨W,hW,(mW d).2 (.inl q)⟩
   ·exact old u hu d (.inl ⟨hd,q⟩)
  ·exact⟨W,hW,(mW d).2 (.inr rfl)⟩
  ·exact old a ha _ (.inr ⟨rfl,vl⟩)
theorem s5.sig (hf:aG Vs Es) (ua:aG Vs' Es') (h:s5 (Vs.map vS) (Vs'.map vS) w m k):
 iO Vs' m=k∧iO Vs' k=m∧iO Vs' (dw k)=(if iO Vs m=m then dw k else iO Vs m)∧∀y∈ao Vs,y≠m→iO Vs' y=if iO Vs y=m then dw k else iO Vs y:=by
 obtain⟨W,hW,eW,mW⟩:=h.wat;have Pn:¬m=k:=fun e=>h.edge (by rw[e])
 have at':∀u∈Vs'.map vS,∀y∈u.2.1,iO Vs' y=ee u.2.1 y:=fun u hu y hy=>by
  obtain⟨v,hv,rfl⟩:=Α.1 hu;exact ic ua.once hv hy
 have at_:∀u∈Vs.map vS,∀y∈u.2.1,iO Vs y=ee u.2.1 y:=fun u hu y hy=>by
  obtain⟨v,hv,rfl⟩:=Α.1 hu;exact ic hf.once hv hy
 have nw:=tD Pn
 have w1:∀y∈[m,k],iO Vs' y=ee [m,k] y:=fun y hy=>by
  rw[at' W hW y ((l8 (h.wr W hW eW) y).1 hy),mI (h.wr W hW eW) nw hy]
 have key:∀u∈Vs.map vS,∀y∈u.2.1,iO Vs' (if y=m then dw k else y)=if iO Vs y=m then dw k else iO Vs y:=fun u hu y hy=>by
  obtain⟨u',qY,e⟩:=h.got hu;have hr:=h.old u hu u' qY e;have hn:u.2.1.Nodup:=iJ (dN Vs▸hf.once) hu
  have inj:∀a∈u.2.1,∀b∈u.2.1,(if a=m then((k.1,k.2.1,1 - k.2.2):D) else a)=(if b=m then(k.1,k.2.1,1 - k.2.2) else b)→a=b:=fun a ha b hb e=>by
   have nk:∀c∈u.2.1,¬c=(k.1,k.2.1,1 - k.2.2):=fun c hc q=>h.nok u hu c hc (by rw[q];rfl)
   by_cases qa:a=m<;>by_cases qb:b=m
   ·rw[qa,qb]
   ·rw[if_pos qa,if_neg qb] at e;exact absurd e.symm (nk b hb)
   ·rw[if_neg qa,if_pos qb] at e;exact absurd e (nk a ha)
   ·rw[if_neg qa,if_neg qb] at e;exact e
  have SG:(u.2.1.map (fun d=>if d=m then((k.1,k.2.1,1 - k.2.2):D) else d)).Nodup:=by
   rw[List.Nodup,Jbg];exact hn.imp_of_mem (fun {a b} ha hb s8 e=>s8 (inj a ha b hb e))
  have SN:(if y=m then((k.1,k.2.1,1 - k.2.2):D) else y)∈u.2.1.map (fun d=>if d=m then((k.1,k.2.1,1 - k.2.2):D) else d):=Α.2 ⟨y,hy,rfl⟩;show iO Vs' (if y=m then((k.1,k.2.1,1 - k.2.2):D) else y)=if iO Vs y=m then((k.1,k.2.1,1 - k.2.2):D) else iO Vs y
  rw[at' u' qY _ ((l8 hr _).1 SN),mI hr SG SN,at_ u hu y hy];exact Di (f:=fun d=>if d=m then((k.1,k.2.1,1 - k.2.2):D) else d) inj hy
 obtain⟨a,ha,vl⟩:=h.there
 refine⟨by rw[w1 m (by simp)];exact(Ib Pn).1,by rw[w1 k (by simp)];exact(Ib Pn).2,?_,fun y hy bj=>?_⟩
 ·have:=key a ha m vl
  rw[if_pos rfl] at this;exact this
 ·rw[dN,Jat] at hy;obtain⟨u,hu,hy⟩:=hy
  have:=key u hu y hy
  rw[if_neg bj] at this;exact this
theorem s5.faces (hf:aG Vs Es) (ua:aG Vs' Es') (h:s5 (Vs.map vS) (Vs'.map vS) w m k):kp Vs' Es'=kp Vs Es:=by
 obtain⟨s1,s2,s3,s4⟩:=h.sig hf ua;have eE:=h.mem
 have PH:∀d∈ao Vs,¬dI d=dI k:=fun d hd=>by
  rw[dN,Jat] at hd;obtain⟨u,hu,hd⟩:=hd;exact h.nok u hu d hd
 have hk:¬k∈ao Vs:=fun q=>PH k q rfl
 have rC:¬dw k∈ao Vs:=fun q=>PH _ q rfl
 have hko:¬k=dw k:=fun e=>by
  have:k.2.2=1 - k.2.2:=congrArg (fun d:D=>d.2.2) e
  omega
 have hmr:m∈ao Vs:=by
  obtain⟨a,ha,vl⟩:=h.there;rw[dN];exact Jat.2 ⟨a,ha,vl⟩
 have Pn:¬m=k:=fun e=>hk (e▸hmr)
 have hmo:¬m=dw k:=fun e=>rC (e▸hmr)
 have hsm:iO Vs m∈ao Vs:=(wX hf.once).cl m hmr
 have rho:∀d∈ao Vs,¬(if d=m then dw k else d)=k:=fun d hd e=>by
  split at e
  ·exact hko e.symm
  ·exact hk (e▸hd)
 have pk:fQ Vs' k=if iO Vs m=m then dw k else iO Vs m:=s3
 have pk2:fQ Vs' (dw k)=m:=by show iO Vs' (dw (dw k))=m;rw[lD];exact s2
 have pz:∀z∈ao Vs,fQ Vs' z=if z=dw m then k else(if fQ Vs z=m then dw k else fQ Vs z):=fun z hz=>by
  by_cases q:z=dw m
  ·rw[if_pos q,q];show iO Vs' (dw (dw m))=k;rw[lD];exact s1
  ·rw[if_neg q];exact s4 (dw z) (hf.oth hz) (fun e=>q (by rw[←e,lD]))
 have f1z:∀z∈ao Vs,(if fQ Vs' z=k then fQ Vs' k else fQ Vs' z)=if fQ Vs z=m then dw k else fQ Vs z:=fun z hz=>by
  by_cases q:z=dw m
  ·have e:fQ Vs z=iO Vs m:=by rw[q];show iO Vs (dw (dw m))=_;rw[lD]
   rw[pz z hz,if_pos q,if_pos rfl,pk,e]
  ·rw[pz z hz,if_neg q,if_neg (rho _ (hf.phi.cl z hz))]
 obtain⟨P',Nh,e'⟩:=iK ua;obtain⟨P,hP,e⟩:=iK hf;have m1:∀y,y∈(ao Vs').erase k↔y∈ao Vs'∧y≠k:=fun y=>by rw[ua.once.mem_erase_iff];exact And.comm
 obtain⟨f1,gf1⟩:∃f:D→D,∀z,f z=if fQ Vs' z=k then fQ Vs' k else fQ Vs' z:=⟨_,fun _=>rfl⟩
 obtain⟨p1,P1,hP1,l1⟩:=wk (f':=f1) ua.phi ((eE k).2 (.inr (.inl rfl))) (ua.once.erase k) m1 (fun z _=>gf1 z) Nh;have nk:¬fQ Vs' k=k:=by rw[pk];exact rho _ hsm
 rw[if_neg nk] at l1
 have m2:∀y,y∈ao Vs↔y∈(ao Vs').erase k∧y≠dw k:=fun y=>by
  rw[m1,eE];constructor
  ·intro hy;exact⟨⟨.inl hy,fun e=>hk (e▸hy)⟩,fun e=>rC (e▸hy)⟩
  ·rintro⟨⟨h1|h1|h1,h2⟩,h3⟩
   ·exact h1
   ·exact absurd h1 h2
   ·exact absurd h1 h3
 have f1k:f1 (dw k)=m:=by rw[gf1,pk2,if_neg Pn]
 obtain⟨p2,P2,Rt,l2⟩:=wk (f':=fQ Vs) p1 ((m1 _).2 ⟨(eE _).2 (.inr (.inr rfl)),fun e=>hko e.symm⟩) hf.once m2 (fun z hz=>by
  rw[f1k,gf1 z,f1z z hz]
  by_cases q:fQ Vs z=m
  ·rw[if_pos q,if_pos rfl,q]
  ·rw[if_neg q,if_neg (fun e:fQ Vs z=dw k=>rC (by rw[←e];exact hf.phi.cl z hz))]) hP1
 rw[f1k,if_neg hmo] at l2
 have:=Rt.len hf.phi hP
 omega
theorem s5.alone (hf:aG Vs Es) (ua:aG Vs' Es') (h:s5 (Vs.map vS) (Vs'.map vS) w m k):bF Vs'=bF Vs:=by
 rw[vn,vn];refine rH (kA (fF ua)) (kA (fF hf)) (fun x=>?_);rw[lq,lq];constructor
 ·rintro⟨u,hu,hr,e⟩
  have q:¬u.1=w:=fun q=>by
   have:=(l8 (h.wr u hu q) m).1 (by simp)
   rw[hr] at this;cases this
  obtain⟨u2,h2,e2,m2⟩:=h.get hu q
  refine⟨u2,h2,List.eq_nil_iff_forall_not_mem.2 (fun d hd=>?_),e2.symm.trans e⟩
  by_cases q:d=m
  ·have:=(m2 _).2 (.inr ⟨rfl,q▸hd⟩)
   rw[hr] at this;cases this
  ·have:=(m2 d).2 (.inl ⟨hd,q⟩)
   rw[hr] at this;cases this
 ·rintro⟨u,hu,hr,e⟩;obtain⟨u',qY,e'⟩:=h.got hu
  refine⟨u',qY,List.eq_nil_iff_forall_not_mem.2 (fun d hd=>?_),e'.trans e⟩
  have:=(l8 (h.old u hu u' qY e') d).2 hd
  rw[hr] at this;cases this
theorem s5.vlen (hf:aG Vs Es) (ua:aG Vs' Es') (h:s5 (Vs.map vS) (Vs'.map vS) w m k):Vs'.length=Vs.length+1:=by
 have h1:=rH (fF ua) (B:=w::(Vs.map vS).map (·.1)) (JaJ.2 ⟨fun q=>by
  obtain⟨u,hu,e⟩:=Α.1 q;exact h.now u hu e,fF hf⟩) (fun x=>by rw[h.keys,Η])
 simpa using h1
theorem s5.genus (hf:aG Vs Es) (ua:aG Vs' Es') (h:s5 (Vs.map vS) (Vs'.map vS) w m k) (hE:Es'.length=Es.length+1):eM Vs' Es'=eM Vs Es:=by
 obtain⟨t,e⟩:=tj hf;obtain⟨P,hP,e1⟩:=Aj (dh hf.rv);have e2:=zn (dh ua.rv) (h.sys (fF hf) (fF ua) (WB hf) hP);rw[nD hf e,nD ua (t:=t) (by rw[h.faces hf ua,h.alone hf ua,h.vlen hf ua,hE,e2,←e1];omega)]
theorem wF {x:Nm} (hf:aG Vs Es) (ua:aG Vs' Es) (hx:∀u∈Vs.map vS,¬u.1=x) (hm:∀u,u∈Vs'.map vS↔(u.1=x∧u.2.1=[]∧u∈Vs'.map vS)∨u∈Vs.map vS) (hxx:∃u∈Vs'.map vS,u.1=x∧u.2.1=[]):eM Vs' Es=eM Vs Es:=by
 obtain⟨X,hX,eX,rX⟩:=hxx;have old:∀u∈Vs.map vS,u∈Vs'.map vS:=fun u hu=>(hm u).2 (.inr hu)
 have new:∀u∈Vs'.map vS,(u.1=x∧u.2.1=[])∨u∈Vs.map vS:=fun u hu=>by
  rcases (hm u).1 hu with⟨h1,h2,-⟩|h
  ·exact .inl ⟨h1,h2⟩
  ·exact .inr h
 have hr:∀d,d∈ao Vs'↔d∈ao Vs:=fun d=>by
  rw[dN,dN,Jat,Jat];constructor
  ·rintro⟨u,hu,hd⟩;rcases new u hu with⟨-,h2⟩|h
   ·rw[h2] at hd;cases hd
   ·exact⟨u,h,hd⟩
  ·rintro⟨u,hu,hd⟩;exact⟨u,old u hu,hd⟩
 have hs:∀y∈ao Vs,iO Vs' y=iO Vs y:=fun y hy=>by
  rw[dN,Jat] at hy;obtain⟨u,hu,hy⟩:=hy;obtain⟨v,hv,ev⟩:=Α.1 hu;obtain⟨v',Lo,ev'⟩:=Α.1 (old u hu);subst ev;have er:v'.2.1.2.2.2=v.2.1.2.2.2:=congrArg (fun z:VS=>z.2.1) ev';have hy':y∈v'.2.1.2.2.2:=by rw[er];exact hy
  rw[ic hf.once hv hy,ic ua.once Lo hy',er]
 have adz:kp Vs' Es=kp Vs Es:=by
  obtain⟨P',Nh,e'⟩:=iK ua;obtain⟨P,hP,e⟩:=iK hf;have h2:jW (fQ Vs) (ao Vs') P:=⟨hP.nd,fun p hp=>(hr p).2 (hP.sub p hp),fun y hy=>hP.all y ((hr y).1 hy),hP.one⟩;have pm:Pm (fQ Vs) (ao Vs'):=⟨ua.once,fun y hy=>(hr _).2 (hf.phi.cl y ((hr y).1 hy)),fun a ha b hb e=>hf.phi.inj a ((hr a).1 ha) b ((hr b).1 hb) e⟩;have h3:jW (fQ Vs') (ao Vs') P:=h2.congr pm (fun y hy=>(hs _ (hf.oth ((hr y).1 hy))).symm);rw[e',e,Nh.len ua.phi h3]
 have hk:=fF hf;have vT:=fF ua
 have Pv:¬x∈(Vs.map vS).map (·.1):=fun q=>by
  obtain⟨u,hu,e⟩:=Α.1 q;exact hx u hu e
 have rB:bF Vs'=bF Vs+1:=by
  rw[vn,vn];refine rH (B:=x::tx (Vs.map vS)) (kA vT) (JaJ.2 ⟨fun q=>?_,kA hk⟩) (fun y=>?_)
  ·obtain⟨u,hu,-,e⟩:=lq.1 q;exact hx u hu e
  ·rw[lq,Η,lq];constructor
   ·rintro⟨u,hu,h1,h2⟩;rcases new u hu with⟨h3,-⟩|h
    ·exact .inl (h2.symm.trans h3)
    ·exact .inr ⟨u,h,h1,h2⟩
   ·rintro (rfl|⟨u,hu,h1,h2⟩)
    ·exact⟨X,hX,rX,eX⟩
    ·exact⟨u,old u hu,h1,h2⟩
 have QV:Vs'.length=Vs.length+1:=by
  have h1:=rH vT (B:=x::(Vs.map vS).map (·.1)) (JaJ.2 ⟨Pv,hk⟩) (fun y=>by
   rw[Η,Α,Α];constructor
   ·rintro⟨u,hu,e⟩;rcases new u hu with⟨h3,-⟩|h
    ·exact .inl (e.symm.trans h3)
    ·exact .inr ⟨u,h,e⟩
   ·rintro (rfl|⟨u,hu,e⟩)
    ·exact⟨X,hX,eX⟩
    ·exact⟨u,old u hu,e⟩)
  simpa using h1
 obtain⟨P,hP,e1⟩:=Aj (dh hf.rv);have co1:∀{g:Nm→Int},PG (Vs'.map vS) g→PG (Vs.map vS) g:=fun hg u hu v hv d hd e he q=>hg u (old u hu) v (old v hv) d hd e he q
 have co2:∀{g:Nm→Int} (z:Int),PG (Vs.map vS) g→PG (Vs'.map vS) (fun y=>if y=x then z else g y):=fun {g} z hg u hu v hv d hd e he q=>by
  rcases new u hu with⟨-,h2⟩|hu
  ·rw[h2] at hd;cases hd
  rcases new v hv with⟨-,h2⟩|hv
  ·rw[h2] at he;cases he
  show(if u.1=x then z else g u.1)=(if v.1=x then z else g v.1)
  rw[if_neg (hx u hu),if_neg (hx v hv)];exact hg u hu v hv d hd e he q
 have tR:∀p∈P,¬p=x:=fun p hp e=>Pv (e▸hP.sub p hp)
 have af9:yn (Vs'.map vS) (x::P):=by
  refine⟨JaJ.2 ⟨fun q=>tR x q rfl,hP.nd⟩,fun p hp=>?_,fun u hu=>?_,fun p hp q hq t=>?_⟩
  ·rcases Η.1 hp with rfl|hp
   ·exact Α.2 ⟨X,hX,eX⟩
   ·obtain⟨u,hu,e⟩:=Α.1 (hP.sub p hp);exact Α.2 ⟨u,old u hu,e⟩
  ·rcases new u hu with⟨h3,-⟩|h
   ·exact⟨x,Jai,by rw[h3];exact nI.refl _ _⟩
   ·obtain⟨p,hp,t⟩:=hP.all u h;exact⟨p,Jad _ hp,fun g hg=>t g (co1 hg)⟩
  ·have no:∀p∈P,¬nI (Vs'.map vS) x p:=fun p hp t=>by
    have:=t _ (co2 (g:=fun _=>0) 1 (fun _ _ _ _ _ _ _ _ _=>rfl))
    simp only[if_true,if_neg (tR p hp)] at this;omega
   rcases Η.1 hp with ep|ob<;>rcases Η.1 hq with eq|hq2
   ·rw[ep,eq]
   ·exact absurd (ep▸t) (no q hq2)
   ·exact absurd (eq▸t.symm) (no p ob)
   ·refine hP.one p ob q hq2 (fun g hg=>?_)
    have:=t _ (co2 0 hg)
    simp only[if_neg (tR p ob),if_neg (tR q hq2)] at this;exact this
 have e2:=zn (dh ua.rv) af9;obtain⟨t,e⟩:=tj hf;rw[nD hf e,nD ua (t:=t) (by rw[adz,rB,QV,e2,List.length_cons,←e1];omega)]
end
theorem uj {V:List VS} {f g:List D→List D} (h:∀v∈V,f v.2.1=g v.2.1):rings V f=rings V g:=
 JaV (fun v hv=>by show tN v (f v.2.1)=tN v (g v.2.1);rw[h v hv])
theorem BU {l:List D} (hn:l.Nodup) (x:D):kt l x=jy l x:=by
 rw[nJ,hn.erase_eq_filter];unfold kt;refine List.filter_congr (fun y _=>?_)
 by_cases q:y=x<;>simp[q]
theorem mD {Vs:List VC} {E:List EC}:eO (Vs.map vS) E=τ↔eM Vs E=0:=by rw[wL,beq_iff_eq]
theorem QY {Vs:List VC} {Es:List EC} (h:aG Vs Es):0≤eM Vs Es:=by
 obtain⟨t,e⟩:=tj h;rw[nD h e];omega
theorem UY {Vs:List VC} {S:SS} (h:dx S) (e:Vs.map vS=S.1) {x:EC} (hx:bI S.2.1 x.1=τ):(e7 x Vs).map vS=iU (iU S.1 (bh x.1 0)) (bh x.1 1):=by
 rw[←Bw h hx,←e];have n0:∀v∈Vs.map vS,v.2.1.Nodup:=fun v hv=>iJ (e▸h.once) hv
 have e1:(e7 x Vs).map vS=rings (rings (Vs.map vS) (fun l=>aM (kt l (bh x.1 0)))) (fun l=>aM (kt l (bh x.1 1))):=by
  unfold e7 rings;rw[JaW,JaW,JaW,JaW];rfl
 rw[e1,uj (V:=Vs.map vS) (g:=fun l=>aM (jy l (bh x.1 0))) (fun v hv=>by show aM (kt v.2.1 _)=_;rw[BU (n0 v hv)])];refine uj (fun v hv=>?_);show aM (kt v.2.1 _)=aM (jy v.2.1 _);rw[BU];obtain⟨u,hu,rfl⟩:=Α.1 hv;exact kS (rj (n0 u hu))
theorem dx.spl {S:SS} (h:dx S) {x nw ot:Nm} {s t:Int} {p:ByteArray × Int} (hx:bI S.2.1 x=τ) (hn:bu S.1 nw=ρ) (ho:bI S.2.1 ot=ρ) (hs:s=0∨s=1):
 s5 S.1 (fx (dL S.1 (bh x s) (bh ot (1 - t))) (nw,aM [bh x s,bh ot t],p)) nw (bh x s) (bh ot t):=by
 have bj:¬x=ot:=fun e=>by rw[e,ho] at hx;cases hx
 have hm:bX S.1 (bh x s)=τ:=by rcases hs with rfl|rfl;exact(h.end_ hx).1;exact(h.end_ hx).2
 have hk:∀r,bX S.1 (bh ot r)=ρ:=fun r=>h.no_ (d:=bh ot r) ho
 obtain⟨a,ha,vl⟩:=cn.1 hm;have now:∀u∈S.1,¬u.1=nw:=gY.1 hn
 refine⟨⟨a,ha,vl⟩,bj,fun u hu d hd e=>?_,now,fun y=>?_,fun u hu e=>?_,fun u hu u' qY e=>?_⟩
 ·have:=h.no_ (d:=d) (by rw[e];exact ho)
  exact ky this hu hd
 ·have:∀y,y∈(fx (dL S.1 (bh x s) (bh ot (1 - t))) (nw,aM [bh x s,bh ot t],p)).map (·.1)↔y=nw∨y∈(dL S.1 (bh x s) (bh ot (1 - t))).map (·.1):=fun y=>by
   rw[Α,Α];constructor
   ·rintro⟨u,hu,rfl⟩;rcases cy.1 hu with rfl|hu
    ·exact .inl rfl
    ·exact .inr ⟨u,hu,rfl⟩
   ·rintro (rfl|⟨u,hu,rfl⟩)
    ·exact⟨_,cy.2 (.inl rfl),rfl⟩
    ·exact⟨u,cy.2 (.inr hu),rfl⟩
  rw[this,ik]
 ·rcases cy.1 hu with rfl|hu
  ·exact eN _
  ·have:u.1∈S.1.map (·.1):=ik S.1 _ _▸Α.2 ⟨u,hu,rfl⟩
   obtain⟨v,hv,q⟩:=Α.1 this;exact absurd (q.trans e) (now v hv)
 ·rcases cy.1 qY with rfl|qY
  ·exact absurd e.symm (now u hu)
  ·unfold dL at qY;rw[wI h.once ha vl,fI h.rg.keys ha] at qY;rcases iA qY with⟨h1,h2⟩|⟨u0,hu0,h1,h2⟩
   ·have e2:u'=u:=fi h.rg.keys h1 hu e;have Fu:¬bh x s∈u.2.1:=fun q=>h2 (by rw[e2,dY h.once hu ha q vl])
    have:u.2.1.map (fun d=>if d=bh x s then(((bh ot t).1,(bh ot t).2.1,1 - (bh ot t).2.2):D) else d)=u.2.1:=by
     have h9:u.2.1.map (fun d=>if d=bh x s then(((bh ot t).1,(bh ot t).2.1,1 - (bh ot t).2.2):D) else d)=u.2.1.map id:=JaV (fun d hd=>if_neg (fun q:d=bh x s=>Fu (q▸hd)));rw[h9,List.map_id]
    rw[this,e2];exact ou.rfl_ _
   ·have e3:u0=a:=fi h.rg.keys hu0 ha h1;have e4:u=a:=fi h.rg.keys hu ha (by rw[←e,h2];exact h1);rw[h2,e4];show ou _ (aM (j4 a.2.1 (bh x s) (bh ot (1 - t))));rw[rJ (iJ h.once ha) vl (ky (hk _) ha)];exact eN _
theorem dx.unspl {S:SS} (h:dx S) {u:VS} (hu:u∈S.1) {ot:Nm} {a b:D} (hm:jn u.2.1 ot=ζ (a,b)):s5 (dL (dM S.1 u.1) (b.1,b.2.1,1 - b.2.2) a) S.1 u.1 a b:=by
 obtain⟨hl,bj,hb⟩:=mB hm;have eE:∀d,d∈u.2.1↔d=a∨d=b:=fun d=>by rcases hl with e|e<;>rw[e]<;>simp[or_comm]
 obtain⟨f1,f2,f3⟩:=qM h hu hm;obtain⟨r1,m1⟩:=h.rg.cut hu;have agp:=h.smooth hu hm S.2.2
 have sa:bX (dM S.1 u.1) a=ρ:=by
  cases hq:bX (dM S.1 u.1) a with
  |false=>rfl
  |true=>exact absurd ((eE a).2 (.inl rfl)) ((m1 _).1 hq).1
 obtain⟨r2,m2⟩:=r1.swp f3 sa;obtain⟨c,hc,hfc⟩:=cn.1 f3
 have Tr:∀v,v∈dM S.1 u.1↔v∈S.1∧¬v.1=u.1:=fun v=>by
  unfold dM CL;rw[JaC,decide_eq_true_iff]
 have Y7:∀y,y∈(dL (dM S.1 u.1) (b.1,b.2.1,1 - b.2.2) a).map (·.1)↔y∈S.1.map (·.1)∧¬y=u.1:=fun y=>by
  rw[ik,Α,Α];constructor
  ·rintro⟨v,hv,rfl⟩;exact⟨⟨v,((Tr v).1 hv).1,rfl⟩,((Tr v).1 hv).2⟩
  ·rintro⟨⟨v,hv,rfl⟩,hn⟩;exact⟨v,(Tr v).2 ⟨hv,hn⟩,rfl⟩
 refine⟨cn.1 ((m2 a).2 (.inl rfl)),bj,fun v hv d hd e=>?_,fun v hv e=>?_,fun y=>?_,fun v hv e=>?_,fun p hp p' WY e=>?_⟩
 ·have:=(agp.known v hv d hd).1
  exact((pH.1 this).1 (e.trans hb))
 ·exact((Y7 v.1).1 (Α.2 ⟨v,hv,rfl⟩)).2 e
 ·rw[Y7]
  by_cases q:y=u.1
  ·subst q;simp only[not_true,and_false,or_false];exact⟨fun _=>trivial,fun _=>Α.2 ⟨u,hu,rfl⟩⟩
  ·simp[q]
 ·rw[fi h.rg.keys hv hu e];rcases hl with q|q<;>rw[q]
  ·exact ou.rfl_ _
  ·exact⟨[a],[b],rfl,rfl⟩
 ·unfold dL at hp;rw[wI r1.once hc hfc,fI r1.keys hc] at hp;rcases iA hp with⟨h1,h2⟩|⟨u0,hu0,h1,h2⟩
  ·have e2:p'=p:=fi h.rg.keys WY ((Tr p).1 h1).1 e;have Vv:¬a∈p.2.1:=fun q=>ky sa h1 q
   have h9:p.2.1.map (fun d=>if d=a then((b.1,b.2.1,1 - b.2.2):D) else d)=p.2.1.map id:=JaV (fun d hd=>if_neg (fun q:d=a=>Vv (q▸hd)));rw[h9,List.map_id,e2];exact ou.rfl_ _
  ·have e3:u0=c:=fi r1.keys hu0 hc h1;have e4:p'=c:=fi h.rg.keys WY ((Tr c).1 hc).1 (by rw[e,h2];exact h1);have hac:¬a∈c.2.1:=ky sa hc;rw[h2,e4];show ou ((aM (j4 c.2.1 (b.1,b.2.1,1 - b.2.2) a)).map _) c.2.1;rw[rJ (iJ r1.once hc) hfc hac];have h8:=(eN (c.2.1.map (fun d=>if d=(b.1,b.2.1,1 - b.2.2) then a else d))).symm.map (fun d=>if d=a then((b.1,b.2.1,1 - b.2.2):D) else d);rw[JaW] at h8
   have h7:c.2.1.map ((fun d=>if d=a then((b.1,b.2.1,1 - b.2.2):D) else d) ∘ (fun d=>if d=(b.1,b.2.1,1 - b.2.2) then a else d))=c.2.1.map id:=JaV (fun d hd=>by
    show(if (if d=(b.1,b.2.1,1 - b.2.2) then a else d)=a then((b.1,b.2.1,1 - b.2.2):D) else(if d=(b.1,b.2.1,1 - b.2.2) then a else d))=d
    by_cases q:d=(b.1,b.2.1,1 - b.2.2)
    ·rw[if_pos q,if_pos rfl,q]
    ·rw[if_neg q,if_neg (fun e:d=a=>hac (e▸hd))])
   rw[h7,List.map_id] at h8;exact h8
theorem yH {Vs Us:List VC} {Es Fs:List EC} (h:(Us.map vS).map (fun s=>(s.1,s.2.1))=(Vs.map vS).map (fun s=>(s.1,s.2.1))) (hE:Fs.map (·.1)=Es.map (·.1)):eM Us Fs=eM Vs Es:=by
 have e1:Us.map (fun v=>(v.1,v.2.1.2.2.2))=Vs.map (fun v=>(v.1,v.2.1.2.2.2)):=by rw[JaW,JaW] at h;exact h
 have hd:qt Fs=qt Es:=by
  have k:∀L:List EC,qt L=(L.map (·.1)).flatMap (fun x:Nm=>[(x.1,x.2,0),(x.1,x.2,1)]):=fun L=>by unfold qt;rw[List.flatMap_map]
  rw[k,k,hE]
 have up:∀Ws:List VC,eM Ws Fs=eM (((Ws.map (fun v=>(v.1,v.2.1.2.2.2))).map (fun p=>((p.1,(ε,p.2.length,p.2.length,p.2),Jaf,0):VC)))) Fs:=fun Ws=>by
  have hl:Ws.length=((Ws.map (fun v=>(v.1,v.2.1.2.2.2))).map (fun p=>((p.1,(ε,p.2.length,p.2.length,p.2),Jaf,0):VC))).length:=by simp
  have a1:∀(Us Ws:List VC),Us.map (fun v=>v.2.1.2.2.2)=Ws.map (fun v=>v.2.1.2.2.2)→dm Us=dm Ws∧bF Us=bF Ws∧∀f,xJ Us f=xJ Ws f:=fun Us Ws e=>by
   have hl:Us.length=Ws.length:=by simpa using congrArg List.length e
   have key:∀{Us Ws:List VC},Us.map (fun v=>v.2.1.2.2.2)=Ws.map (fun v=>v.2.1.2.2.2)→∀i y,Pj Us i y→Pj Ws i y:=fun {Us Ws} e i y=>by
    rintro⟨v,hv,x,hx,q⟩;have h1:(Us.map (fun v:VC=>v.2.1.2.2.2))[i]? =ζ v.2.1.2.2.2:=by rw[Ψ,hv];rfl
    rw[e,Ψ] at h1;obtain⟨v2,h2,h3⟩:=Option.map_eq_some_iff.1 h1;exact⟨v2,h2,x,by rw[h3];exact hx,q⟩
   refine⟨zA hl (fun i y=>⟨key e i y,key e.symm i y⟩),?_,?_⟩
   ·have k:∀Zs:List VC,bF Zs=((Zs.map (fun v=>v.2.1.2.2.2)).filter (fun l=>decide (l=[]))).length:=fun Zs=>by rw[List.filter_map,Ρ];rfl
    rw[k,k,e]
   ·clear hl
    induction Us generalizing Ws with
    |nil=>
     cases Ws with
     |nil=>exact fun f=>rfl
     |cons w Ws=>cases e
    |cons u Us ih=>
     cases Ws with
     |nil=>cases e
     |cons w Ws=>
      rw[ι,ι] at e;injection e with e1 e2
      intro f;rw[xJ,xJ,e1];exact ih Ws e2 _
  obtain⟨b1,b2,b3⟩:=a1 Ws ((Ws.map (fun v=>(v.1,v.2.1.2.2.2))).map (fun p=>((p.1,(ε,p.2.length,p.2.length,p.2),Jaf,0):VC))) (by rw[JaW,JaW];rfl)
  have b4:fQ Ws=fQ ((Ws.map (fun v=>(v.1,v.2.1.2.2.2))).map (fun p=>((p.1,(ε,p.2.length,p.2.length,p.2),Jaf,0):VC))):=by
   funext y
   unfold fQ iO gi;rw[b3]
  unfold eM kp;rw[b1,b2,b4,←hl]
 have e3:eM Vs Fs=eM Vs Es:=by
  have:Fs.length=Es.length:=by simpa using congrArg List.length hE
  unfold eM kp;rw[hd,this]
 rw[up Us,e1,←up Vs,e3]
theorem gD.plane {S:SS} (h:gD S) (hp:eO S.1 S.2.1=τ) {o:dR} (ho:iu o=0) (hr:(bQ S o).2=0):eO (bQ S o).1.1 (bQ S o).1.2.1=τ:=by
 have hk:=h.kind ho;have hf:=h.formed (eH S.1)
 have g0:eM (S.1.map Rf) S.2.1=0:=by
  rw[←eH S.1] at hp;exact mD.1 hp
 have fin:∀{R:SS},eM (R.1.map Rf) R.2.1=0→eO R.1 R.2.1=τ:=fun {R} e=>by
  rw[←eH R.1];exact mD.2 e
 obtain⟨m1,m2,m3,m4⟩:=AP ho;unfold bQ at hk hr ⊢;split
 ·rename_i k1;rw[if_pos k1] at hk hr;unfold og at hk hr ⊢;split at hr
  ·cases hr
  ·rename_i q1;split at hr
   ·cases hr
   ·rename_i q2;rw[if_neg q1,if_neg q2] at hk ⊢;refine fin ((wF (x:=bL o) hf (hk.formed (eH _)) (fun u hu=>?_) (fun u=>?_) ?_).trans g0)
    ·rw[eH] at hu;have q1:bu S.1 (bL o)=ρ:=by simpa using q1
     exact gY.1 q1 u hu
    ·rw[eH,eH];constructor
     ·intro hu;rcases cy.1 hu with e|PJ
      ·exact .inl ⟨by rw[e],by rw[e],hu⟩
      ·exact .inr PJ
     ·rintro (⟨-,-,hu⟩|hu)
      ·exact hu
      ·exact cy.2 (.inr hu)
    ·rw[eH];exact⟨_,cy.2 (.inl rfl),rfl,rfl⟩
 rename_i k1;rw[if_neg k1] at hk hr;split
 ·rename_i k2;rw[if_pos k2] at hk hr;unfold oc at hk hr ⊢;split at hr
  ·cases hr
  ·rename_i q1;split at hr
   ·cases hr
   ·rename_i q2;rw[if_neg q1,if_neg q2] at hk ⊢;have hh:bu S.1 (bL o)=τ:=by simpa using q1
    obtain⟨u,hu,e⟩:=db.1 hh;have e:u.1=bL o:=e;have q2:eS S.1 (bL o)=[]:=by simpa using q2
    rw[←e,fI h.fit.rg.keys hu] at q2
    have Tr:∀v,v∈dM S.1 (bL o)↔v∈S.1∧¬v.1=bL o:=fun v=>by
     unfold dM CL;rw[JaC,decide_eq_true_iff]
    refine fin ((wF (x:=bL o) (hk.formed (eH _)) hf (fun v hv=>?_) (fun v=>?_) ?_).symm.trans g0)
    ·rw[eH] at hv;exact((Tr v).1 hv).2
    ·rw[eH,eH];show _↔_∨v∈dM S.1 (bL o);rw[Tr];constructor
     ·intro hv
      by_cases q:v.1=bL o
      ·have:v=u:=fi h.fit.rg.keys hv hu (q.trans e.symm)
       exact .inl ⟨q,by rw[this];exact q2,hv⟩
      ·exact .inr ⟨hv,q⟩
     ·rintro (⟨-,-,hv⟩|⟨hv,-⟩)<;>exact hv
    ·rw[eH];exact⟨u,hu,e,q2⟩
 rename_i k2;rw[if_neg k2] at hk hr;split
 ·rename_i k3;rw[if_pos k3] at hk hr;unfold fO at hk hr ⊢;split at hr
  ·cases hr
  ·rename_i q1;split at hr
   ·cases hr
   ·rename_i q2;split at hr
    ·cases hr
    ·rename_i q3;rw[if_neg q1,if_neg q2,if_neg q3];obtain⟨b2,jc⟩:=aB ((if (jh o).2=bh (bL o) 0 then jh o else lz S.1 S.2.2 (jh o)));dsimp only at hr ⊢;rw[jc] at hr ⊢
     by_cases q4:eO (cO (cO S.1 (lz S.1 S.2.2 (uC o)) (bh (bL o) 0)) b2 (bh (bL o) 1)) (gH S.2.1 (bL o,Jaf,0))=τ
     ·rw[if_pos q4];exact q4
     ·rw[if_neg q4] at hr;cases hr
 rename_i k3;rw[if_neg k3] at hk hr;split
 ·rename_i k4;rw[if_pos k4] at hk hr;unfold jK at hk hr ⊢;split at hr
  ·cases hr
  ·rename_i q1;rw[if_neg q1] at hk ⊢;have hE:bI S.2.1 (bL o)=τ:=by simpa using q1
   obtain⟨i,x,-,hx,ex,-⟩:=ck hE;have ex:x.1=bL o:=ex;have hg:=E5 hf hx;have hS:=UY h.fit (eH S.1) (x:=x) (by rw[ex];exact hE);have hc:jX S.2.1 (bL o)=mE i S.2.1:=by rw[←ex];exact sh h.fit.eup hx
   have hF:=uk hf hx
   have:=QY hF
   show eO (iU (iU S.1 (bh (bL o) 0)) (bh (bL o) 1)) (jX S.2.1 (bL o))=τ;rw[hc,←ex,←hS];exact mD.2 (by omega)
 rename_i k4;rw[if_neg k4] at hk hr;split
 ·rename_i k5;rw[if_pos k5] at hk hr;unfold dJ at hk hr ⊢;split at hr
  ·cases hr
  ·rename_i q1;split at hr
   ·cases hr
   ·rename_i q2;split at hr
    ·cases hr
    ·rename_i q3;rw[if_neg q1,if_neg q2,if_neg q3] at hk ⊢;rw[not_or] at q2;have hE:bI S.2.1 (bL o)=τ:=by simpa using q1
     have VI:0≤o.m∧o.m≤3:=by
      unfold lO at m2;rw[if_neg (by omega),if_neg k3,if_pos k5,Jar,Jar] at m2;exact of_decide_eq_true m2.2
     have hs:(1:Int) - o.m.tmod 2=0∨1 - o.m.tmod 2=1:=by rw[Int.tmod_eq_emod_of_nonneg VI.1];omega
     have sp:=h.fit.spl (t:=o.m.tdiv 2) (p:=(Jaf,0)) hE (nw:=rz o) (by simpa using q2.1) (ot:=cX o) (by simpa using q2.2) hs;rw[←eH S.1,←eH (fx _ _)] at sp;rw[eH S.1] at sp;refine fin ((s5.genus (Vs:=S.1.map Rf) hf (hk.formed (eH _)) (by rw[eH S.1];exact sp) ?_).trans g0)
     show(gH _ _).length=_
     unfold gH;rw[ll]
 rename_i k5;rw[if_neg k5] at hk hr;split
 ·rename_i k6;rw[if_pos k6] at hk hr;unfold gU at hk hr ⊢;split at hr
  ·cases hr
  ·rename_i q1;rw[if_neg q1] at hk ⊢;have hh:bu S.1 (bL o)=τ:=by simpa using q1
   obtain⟨u,hu,e⟩:=db.1 hh;have e:u.1=bL o:=e;rw[←e,fI h.fit.rg.keys hu] at hk hr ⊢;split at hr
   ·cases hr
   ·rename_i a b hm;rw[hm] at hk;have sp:=h.fit.unspl hu hm;have rC:gD (dL (dM S.1 u.1) (b.1,b.2.1,1 - b.2.2) a,jX S.2.1 (cX o),dP (dP S.2.2 (bh (cX o) 0,if bh (cX o) 0=(b.1,b.2.1,1 - b.2.2) then a else zD)) (bh (cX o) 1,if bh (cX o) 1=(b.1,b.2.1,1 - b.2.2) then a else zD)):=hk;show eO (dL (dM S.1 u.1) (b.1,b.2.1,1 - b.2.2) a) (jX S.2.1 (cX o))=τ;rw[←eH (dL (dM S.1 u.1) (b.1,b.2.1,1 - b.2.2) a)];refine mD.2 ((s5.genus (Vs':=S.1.map Rf) (Es':=S.2.1) (rC.formed (eH _)) hf (by rw[eH,eH];exact sp) ?_).symm.trans g0)
    have hE:bI S.2.1 (cX o)=τ:=by
     obtain⟨hl,bj,hb⟩:=mB hm
     have:b∈u.2.1:=by rcases hl with q|q<;>rw[q]<;>simp
     have:=(h.fit.known u hu b this).1
     rwa [hb] at this
    obtain⟨i,x,-,hx,ex,hi⟩:=ck hE;have ex:x.1=cX o:=ex;show S.2.1.length=(jX S.2.1 (cX o)).length+1;have hc:jX S.2.1 (cX o)=S.2.1.take i++S.2.1.drop (i+1):=by rw[←ex];exact sh h.fit.eup hx
    rw[hc,List.length_append,List.length_take,List.length_drop];omega
 ·rename_i k6;rw[if_neg k6] at hk hr;unfold setS at hk hr ⊢;split
  ·rename_i q0;rw[if_pos q0] at hr;split
   ·refine fin ((yH (Us:=S.1.map Rf) (Vs:=S.1.map Rf) rfl (wy _ _ _)).trans g0)
   ·rename_i q1;rw[if_neg q1] at hr;cases hr
  ·rename_i q0;rw[if_neg q0] at hr;split
   ·refine fin ((yH (Vs:=S.1.map Rf) (Es:=S.2.1) ?_ rfl).trans g0);rw[eH,eH];unfold lg;rw[JaW];refine JaV (fun v _=>?_)
    show((if v.1=bL o then(v.1,v.2.1,fV o v.2.2) else v:VS).1,(if v.1=bL o then(v.1,v.2.1,fV o v.2.2) else v:VS).2.1)=(v.1,v.2.1)
    split<;>rfl
   ·rename_i q1;rw[if_neg q1] at hr;cases hr
structure yh (S:SS):Prop where
 ok:gD S
 pl:eO S.1 S.2.1=τ
theorem yh.kind {S:SS} (h:yh S) {o:dR} (ho:iu o=0) (hk:(bQ S o).2=0):yh (bQ S o).1:=⟨h.ok.kind ho,h.ok.plane h.pl ho hk⟩
theorem yh.all:∀(L:List dR) {S:SS},yh S→(∀o∈L,iu o=0)→(jT S L).2=0→yh (jT S L).1
 |[],S,h,_,_=>h
 |o::L,S,h,ho,hr=>by
  have e:jT S (o::L)=if (bQ S o).2=0 then jT (bQ S o).1 L else(dv,(bQ S o).2):=rfl
  by_cases hk:(bQ S o).2=0
  ·rw[e,if_pos hk] at hr ⊢;exact yh.all L (h.kind (ho o (Jai)) hk) (fun u hu=>ho u (Jad _ hu)) hr
  ·rw[e,if_neg hk] at hr;exact absurd hr hk
theorem xa:∀{L:List dR},fY L=0→∀o∈L,iu o=0
 |[],_,_,ho=>by cases ho
 |u::L,h,o,ho=>by
  have h1:(if iu u=0 then fY L else iu u)=0:=h
  by_cases q:iu u=0
  ·rw[if_pos q] at h1;rcases Η.1 ho with rfl|ho
   ·exact q
   ·exact xa h1 o ho
  ·rw[if_neg q] at h1;exact absurd h1 q
theorem yh.edit {S:SS} (h:yh S) {L:List dR} (hr:(la S L).2=0):yh (la S L).1:=by
 unfold la at hr ⊢
 by_cases q:pB L=0
 ·rw[if_pos q] at hr ⊢;refine h.all L (fun o ho=>?_) hr;unfold pB at q;split at q
  ·exact absurd q (by decide)
  ·exact xa q o ho
 ·rw[if_neg q] at hr;exact absurd hr q
theorem yh.try_ {S:SS} (h:yh S) (L:List dR):yh (tw S L):=by
 unfold tw;split
 ·rename_i hr;exact h.edit hr
 ·exact h
theorem yh.nil_:yh dv:=⟨dy,by decide⟩
end Go.Proofs.YtpdpbfmiahjiiaaGreat
