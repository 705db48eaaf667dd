/- 'EditLeaves' answers true for every row of edits and every name.
   No condition beyond the row's own. -/
import Derived.Test.YtpdpbfmiahjiiaaGreatPlAB
import Derived.Test.YtpdpbfmiahjiiaaGreatPlAH
import Derived.Test.YtpdpbfmiahjiiaaGreatPlAN
import Derived.Test.YtpdpbfmiahjiiaaGreatPlAU
import Derived.Test.YtpdpbfmiahjiiaaGreatPlBA
import Derived.Test.YtpdpbfmiahjiiaaGreatRows
set_option linter.unusedSectionVars false
set_option linter.unusedSimpArgs false
set_option linter.unusedVariables false
set_option maxRecDepth 100000
set_option maxHeartbeats 16000000
namespace Go.Proofs.YtpdpbfmiahjiiaaGreat
open Go.RowKit
open _root_.Go.Value renaming slice→γ,string→μ,pointer→υ,agg→φ
open _root_.Go.Obj renaming cells→δ
open _root_.Option renaming none→ε,some→ζ
open _root_.Go.Proofs.Tryz renaming prog→η
open _root_.List renaming map_cons→ι,map_nil→π,mem_map→Α,mem_cons→Η,length_map→Ρ,mem_singleton→Jao,mem_filter→JaC,length_cons→JaH,filter_cons→Jbm
open _root_.Go.Act renaming put→ξ
open _root_.Go renaming World→ο,Value→ψ,Calls→Ζ
open _root_.Bool renaming false→ρ,true→τ
open _root_.Go.RowKit renaming Below→σ
open _root_.Go.RowKit.Below renaming refl→Θ
open _root_.Nat renaming le_trans→Λ
def pQ (V:List VS) (x:Nm) (f:D):List VS:=rings (cK V x) (fun l=>aJ (ft l f))
theorem vR (V:List VS) (f:List D→List D) (x:Nm):cK (rings V f) x=rings (cK V x) f:=by
 unfold cK fo rings;rw[List.filter_map];rfl
theorem tf (V:List VS) (f g:List D→List D):rings (rings V f) g=rings V (fun l=>g (f l)):=by
 unfold rings;rw[List.map_map];rfl
theorem rM {V:List VS} {x:Nm} {v:VS}:v∈cK V x↔v∈V∧¬v.1=x:=by
 unfold cK fo;rw[JaC];simp
theorem uM {V:List VS} {x:Nm} {f:D} {w:VS}:w∈pQ V x f↔∃v∈V,¬v.1=x∧w=rr v (aJ (ft v.2.1 f)):=by
 unfold pQ rings;rw[Α];constructor
 ·rintro⟨v,hv,rfl⟩;exact⟨v,(rM.1 hv).1,(rM.1 hv).2,rfl⟩
 ·rintro⟨v,hv,hx,rfl⟩;exact⟨v,rM.2 ⟨hv,hx⟩,rfl⟩
theorem LB {V:List VS} {E:List EC} {G:List Gn} (hS:eK (V,E,G)) {u:VS} (hu:u∈V) {d:D} (hr:u.2.1=[d]):cK (dK (dK V (bg (cN d) 0)) (bg (cN d) 1)) u.1=pQ V u.1 (da d):=by
 have hd:=hS.known u hu d (by rw[hr];exact Jao.2 rfl);rw[←qS hS (x:=cN d) hd.1,vR,vR,tf];unfold pQ;refine Aa (fun v hv=>?_);obtain⟨hv,hx⟩:=rM.1 hv;have hn:v.2.1.Nodup:=iQ hS.once hv;have ht:aJ v.2.1=v.2.1:=hS.turned v hv;have ui:¬d∈v.2.1:=fun q=>hx (by rw[eE hS.once hv hu q (by rw[hr];exact Jao.2 rfl)])
 have ed:d=bg (cN d) d.2.2:=rfl;rcases hd.2 with q|q
 ·have e0:bg (cN d) 0=d:=(ki rfl q).symm
  have e1:da d=bg (cN d) 1:=by
   show((d.1,d.2.1,1 - d.2.2):D)=(d.1,d.2.1,1)
   rw[q];rfl
  show aJ (ft (aJ (ft v.2.1 (bg (cN d) 0))) (bg (cN d) 1))=aJ (ft v.2.1 (da d));rw[e0,qZ ui,ht,e1]
 ·have e0:bg (cN d) 1=d:=(ki rfl q).symm
  have e1:da d=bg (cN d) 0:=by
   show((d.1,d.2.1,1 - d.2.2):D)=(d.1,d.2.1,0)
   rw[q];rfl
  show aJ (ft (aJ (ft v.2.1 (bg (cN d) 0))) (bg (cN d) 1))=aJ (ft v.2.1 (da d));have Fi:(ft v.2.1 (bg (cN d) 0)).Nodup:=mY hn;rw[e0,qZ (fun z=>ui ((jM hn).1 (e7.1 z)).2),mw Fi,e1]
section
variable {Vs Us:List VC} {Es Fs:List EC} {u:VS} {d:D}
structure oG (Vs:List VC) (Es:List EC) (Us:List VC) (Fs:List EC) (u:VS) (d:D):Prop where
 hf:aV Vs Es
 hg:aV Us Fs
 hu:u∈Vs.map vS
 hr:u.2.1=[d]
 hV:Us.map vS=pQ (Vs.map vS) u.1 (da d)
 hE:Fs=eI Es (cN d)
 ht:∀v∈Vs.map vS,aJ v.2.1=v.2.1
theorem oG.vs (h:oG Vs Es Us Fs u d):∃v∈Vs,v.1=u.1∧v.2.1.2.2.2=[d]:=by
 obtain⟨v,hv,rfl⟩:=Α.1 h.hu;exact⟨v,hv,rfl,h.hr⟩
theorem oG.din (h:oG Vs Es Us Fs u d):d∈aD Vs:=by
 obtain⟨v,hv,-,hr⟩:=h.vs;exact fk.2 ⟨v,hv,by rw[hr];exact Jao.2 rfl⟩
theorem oG.side (h:oG Vs Es Us Fs u d):d.2.2=0∨d.2.2=1:=by
 obtain⟨e,he,e1,q⟩:=(h.hf.mem d).1 h.din;exact q
theorem oG.ne (h:oG Vs Es Us Fs u d):da d≠d:=fun q=>by
 have h1:1 - d.2.2=d.2.2:=congrArg (fun z:D=>z.2.2) q;omega
theorem oG.mem (h:oG Vs Es Us Fs u d) (z:D):z∈aD Us↔z∈aD Vs∧z≠d∧z≠da d:=by
 rw[h.hg.mem,h.hf.mem,h.hE];have hs:=h.side;constructor
 ·rintro⟨e,he,e1,q⟩;unfold eI fo at he;rw[JaC] at he;have bQ:¬e.1=cN d:=by simpa using he.2
  refine⟨⟨e,he.1,e1,q⟩,fun z1=>bQ (by rw[e1,z1];rfl),fun z1=>bQ (by rw[e1,z1];rfl)⟩
 ·rintro⟨⟨e,he,e1,q⟩,z1,z2⟩
  refine⟨e,?_,e1,q⟩
  unfold eI fo;rw[JaC]
  refine⟨he,?_⟩
  have bQ:¬e.1=cN d:=fun y=>by
   obtain⟨a,b,c⟩:=z;obtain⟨a',b',c'⟩:=d;have h1:((a,b):Nm)=(a',b'):=e1.symm.trans y;obtain⟨rfl,rfl⟩:=Prod.mk.inj h1;have h2:c≠c':=fun r=>z1 (by rw[r])
   have h3:c≠1 - c':=fun r=>z2 (by rw[r];rfl)
   have h4:c=0∨c=1:=q;have h5:c'=0∨c'=1:=hs;omega
  simpa using bQ
theorem oG.sg (h:oG Vs Es Us Fs u d) {z:D} (hz:z∈aD Us):pM Us z=if pM Vs z=da d then pM Vs (da d) else pM Vs z:=by
 obtain⟨w,hw,hzw⟩:=fk.1 hz;have h1:vS w∈pQ (Vs.map vS) u.1 (da d):=h.hV▸Α.2 ⟨w,hw,rfl⟩;obtain⟨s,hs,-,e⟩:=uM.1 h1;obtain⟨v,hv,rfl⟩:=Α.1 hs;have er:w.2.1.2.2.2=aJ (ft v.2.1.2.2.2 (da d)):=congrArg (fun z:VS=>z.2.1) e;have hn:v.2.1.2.2.2.Nodup:=wm h.hf.once hv
 have Xf:z≠da d∧z∈v.2.1.2.2.2:=by
  rw[er] at hzw;exact(jM hn).1 (e7.1 hzw)
 rw[oY h.hg.once hw hzw,oY h.hf.once hv Xf.2,er]
 by_cases q:da d∈v.2.1.2.2.2
 ·rw[←KL hn,(Kp hn q).1 z Xf.2 Xf.1,oY h.hf.once hv q]
 ·have ht:aJ v.2.1.2.2.2=v.2.1.2.2.2:=h.ht (vS v) (Α.2 ⟨v,hv,rfl⟩);rw[qZ q,ht,if_neg (show ¬ic v.2.1.2.2.2 z=da d from fun y=>q (y▸mm Xf.2))]
theorem oG.faces (h:oG Vs Es Us Fs u d):nN Us Fs≤nN Vs Es:=by
 obtain⟨P,hP,eP⟩:=sJ h.hf;obtain⟨Q,hQ,eQ⟩:=sJ h.hg;have hp:=h.hf.phi;have hd:=h.din;have BU:=h.hf.oth hd;obtain⟨v,hv,-,hr⟩:=h.vs
 have sd:pM Vs d=d:=by
  rw[oY h.hf.once hv (by rw[hr];exact Jao.2 rfl),hr];unfold ic;simp
 have p1:jF Vs (da d)=d:=by
  show pM Vs (da (da d))=d;rw[np,sd]
 have Uy:∀a∈aD Vs,∀b∈aD Vs,pM Vs a=pM Vs b→a=b:=(Cb h.hf.once).inj
 obtain⟨m1,P1,hP1,e1⟩:=zA hp BU (L':=(aD Vs).filter (fun z=>decide (z≠da d))) (f':=fun z=>if jF Vs z=da d then jF Vs (da d) else jF Vs z) (h.hf.once.filter _) (fun y=>by rw[JaC];simp) (fun z _=>rfl) hP;have hd1:d∈(aD Vs).filter (fun z=>decide (z≠da d)):=JaC.2 ⟨hd,decide_eq_true h.ne.symm⟩
 obtain⟨m2,P2,Z4,e2⟩:=zA m1 hd1 (L':=aD Us) (f':=jF Us) h.hg.once (fun y=>by rw[h.mem,JaC,decide_eq_true_eq];exact⟨fun q=>⟨⟨q.1,q.2.2⟩,q.2.1⟩,fun q=>⟨q.1.1,q.2,q.1.2⟩⟩) (fun z hz=>by
  obtain⟨z1,z2,z3⟩:=(h.mem z).1 hz;have hoz:da z∈aD Us:=h.hg.oth hz;have UZ:=h.hf.oth z1;show pM Us (da z)=if (if jF Vs z=da d then jF Vs (da d) else jF Vs z)=d then(if jF Vs d=da d then jF Vs (da d) else jF Vs d) else(if jF Vs z=da d then jF Vs (da d) else jF Vs z)
  rw[h.sg hoz,p1]
  by_cases q:jF Vs z=da d
  ·have q2:pM Vs (da z)=da d:=q
   have hn:¬jF Vs d=da d:=fun r=>by
    have r2:pM Vs (da d)=da d:=r;have r3:=Uy _ UZ _ BU (q2.trans r2.symm);exact z2 (by rw[←np z,r3,np])
   rw[if_pos q2,if_pos q,if_pos rfl,if_neg hn];rfl
  ·have q2:¬pM Vs (da z)=da d:=q
   have hn:¬jF Vs z=d:=fun r=>by
    have r2:pM Vs (da z)=pM Vs d:=(show pM Vs (da z)=d from r).trans sd.symm;have r3:=Uy _ UZ _ hd r2;exact z3 (by rw[←r3,np])
   rw[if_neg q2,if_neg q,if_neg hn];rfl) hP1
 rw[eP,eQ,hQ.len h.hg.phi Z4];omega
theorem oG.parts (h:oG Vs Es Us Fs u d):mN (fP Us)=mN (fP Vs):=by
 obtain⟨v',Pe,QR⟩:=fk.1 (h.hf.oth h.din);have hdu:d∈u.2.1:=by rw[h.hr];exact Jao.2 rfl
 have kV:=vY h.hf;have kU:=vY h.hg
 have yx:¬v'.1=u.1:=fun q=>by
  have e:=kL kV (Α.2 ⟨v',Pe,rfl⟩:vS v'∈Vs.map vS) h.hu q;have h1:da d∈u.2.1:=e▸QR;rw[h.hr] at h1;exact h.ne (Jao.1 h1)
 obtain⟨y,gy⟩:=az v'.1;rw[gy] at yx;have one:∀a∈Vs.map vS,∀b∈Vs.map vS,∀e:D,e∈a.2.1→e∈b.2.1→a=b:=fun a ha b hb e h1 h2=>eE (kp Vs▸h.hf.once) ha hb h1 h2
 have two:∀a∈Vs.map vS,∀e∈a.2.1,cN e=cN d→a.1=u.1∨a.1=y:=fun a ha e he q=>by
  obtain⟨v,hv,rfl⟩:=Α.1 ha;have hs:=h.side;obtain⟨e0,-,-,s0⟩:=(h.hf.mem e).1 (fk.2 ⟨v,hv,he⟩)
  have:e=d∨e=da d:=by
   obtain⟨a1,a2,a3⟩:=e;obtain⟨b1,b2,b3⟩:=d;obtain⟨rfl,rfl⟩:=Prod.mk.inj (show((a1,a2):Nm)=(b1,b2) from q);have s1:a3=0∨a3=1:=s0;have s2:b3=0∨b3=1:=hs
   by_cases r:a3=b3
   ·left;rw[r]
   ·right
    show((a1,a2,a3):D)=(a1,a2,1 - b3)
    rw[show a3=1 - b3 by omega]
  rcases this with rfl|rfl
  ·exact .inl (by rw[one _ ha _ h.hu e he hdu])
  ·exact .inr (by rw[one _ ha (vS v') (Α.2 ⟨v',Pe,rfl⟩) _ he QR];exact gy)
 have X5:∀w∈Us.map vS,∃v∈Vs.map vS,w.1=v.1∧¬v.1=u.1∧∀e,e∈w.2.1→e∈v.2.1:=fun w hw=>by
  rw[h.hV] at hw;obtain⟨v,hv,hx,rfl⟩:=uM.1 hw
  refine⟨v,hv,rfl,hx,fun e he=>?_⟩
  have he:e∈aJ (ft v.2.1 (da d)):=he;have hn:v.2.1.Nodup:=iQ (kp Vs▸h.hf.once) hv;exact((jM hn).1 (e7.1 he)).2
 have hVU:∀v∈Vs.map vS,¬v.1=u.1→∃w∈Us.map vS,w.1=v.1∧∀e∈v.2.1,e≠da d→e∈w.2.1:=fun v hv hx=>by
  refine⟨rr v (aJ (ft v.2.1 (da d))),by rw[h.hV];exact uM.2 ⟨v,hv,hx,rfl⟩,rfl,fun e he bQ=>?_⟩
  have hn:v.2.1.Nodup:=iQ (kp Vs▸h.hf.once) hv;exact e7.2 ((jM hn).2 ⟨bQ,he⟩)
 have up:∀g,S4 (Vs.map vS) g→S4 (Us.map vS) g:=fun g hg a ha b hb e he e' AT q=>by
  obtain⟨a',Qy,ea,-,ka⟩:=X5 a ha;obtain⟨b',Er,eb,-,kb⟩:=X5 b hb;rw[ea,eb];exact hg a' Qy b' Er e (ka e he) e' (kb e' AT) q
 have dn:∀g,S4 (Us.map vS) g→S4 (Vs.map vS) (fun n=>if n=u.1 then g y else g n):=fun g hg a ha b hb e he e' AT q=>by
  show(if a.1=u.1 then g y else g a.1)=(if b.1=u.1 then g y else g b.1)
  by_cases r:cN e=cN d
  ·have f1:(if a.1=u.1 then g y else g a.1)=g y:=by
    rcases two a ha e he r with z|z
    ·rw[if_pos z]
    ·rw[if_neg (by rw[z];exact yx),z]
   have f2:(if b.1=u.1 then g y else g b.1)=g y:=by
    rcases two b hb e' AT (q.symm.trans r) with z|z
    ·rw[if_pos z]
    ·rw[if_neg (by rw[z];exact yx),z]
   rw[f1,f2]
  ·have na:¬a.1=u.1:=fun z=>r (by
    rw[kL kV ha h.hu z,h.hr] at he;rw[Jao.1 he])
   have nb:¬b.1=u.1:=fun z=>r (by
    rw[kL kV hb h.hu z,h.hr] at AT;rw[q,Jao.1 AT])
   rw[if_neg na,if_neg nb];obtain⟨a',Qy,ea,ka⟩:=hVU a ha na;obtain⟨b',Er,eb,kb⟩:=hVU b hb nb;rw[←ea,←eb];exact hg a' Qy b' Er e (ka e he (fun z=>r (by rw[z];rfl))) e' (kb e' AT (fun z=>r (by rw[q,z];rfl))) q
 have tup:∀a b,lW (Us.map vS) a b→lW (Vs.map vS) a b:=fun a b t g hg=>t g (up g hg)
 have tdn:∀a b,¬a=u.1→¬b=u.1→lW (Vs.map vS) a b→lW (Us.map vS) a b:=fun a b na nb t g hg=>by
  have:=t _ (dn g hg)
  simpa [na,nb] using this
 have txy:lW (Vs.map vS) u.1 y:=fun g hg=>by
  rw[←gy];exact hg u h.hu (vS v') (Α.2 ⟨v',Pe,rfl⟩) d hdu (da d) QR rfl
 obtain⟨P,hP,eP⟩:=E7 (Vs:=Vs) (by rw[←kx];exact kV);rw[eP]
 have VA:∀p:Nm,¬(if p=u.1 then y else p)=u.1:=fun p=>by
  by_cases q:p=u.1
  ·rw[if_pos q];exact yx
  ·rw[if_neg q];exact q
 have zy:∀p:Nm,lW (Vs.map vS) p (if p=u.1 then y else p):=fun p=>by
  by_cases q:p=u.1
  ·rw[if_pos q,q];exact txy
  ·rw[if_neg q];exact lW.refl _ _
 have hQ:zw (Us.map vS) (P.map (fun p=>if p=u.1 then y else p)):=by
  refine⟨?_,fun q hq=>?_,fun w hw=>?_,fun p hp q hq t=>?_⟩
  ·refine List.pairwise_map.2 (List.Pairwise.imp_of_mem (fun {p q} hp hq bQ e=>bQ ?_) hP.nd);exact hP.one p hp q hq (((zy p).trans (by rw[e];exact lW.refl _ _)).trans (zy q).symm)
  ·obtain⟨p,hp,rfl⟩:=Α.1 hq
   have hm:(if p=u.1 then y else p)∈(Vs.map vS).map (·.1):=by
    by_cases r:p=u.1
    ·rw[if_pos r,←gy];exact Α.2 ⟨vS v',Α.2 ⟨v',Pe,rfl⟩,rfl⟩
    ·rw[if_neg r];exact hP.sub p hp
   obtain⟨v,hv,ev⟩:=Α.1 hm;have ev:v.1=(if p=u.1 then y else p):=ev;obtain⟨w,hw,ew,-⟩:=hVU v hv (by rw[ev];exact VA p);exact Α.2 ⟨w,hw,ew.trans ev⟩
  ·obtain⟨v,hv,e,hx,-⟩:=X5 w hw;obtain⟨p,hp,t⟩:=hP.all v hv
   refine⟨_,Α.2 ⟨p,hp,rfl⟩,?_⟩
   rw[e];exact tdn _ _ (VA p) hx ((zy p).symm.trans t)
  ·obtain⟨p',TL,rfl⟩:=Α.1 hp;obtain⟨q',hq',rfl⟩:=Α.1 hq;rw[hP.one p' TL q' hq' (((zy p').trans (tup _ _ t)).trans (zy q').symm)]
 rw[F5 (by rw[←kx];exact kU) hQ,Ρ]
end
def fg (x:Nm):cO:=⟨4,x.1,x.2,0,0,0,0,0,0,0,0,0,0,0,0,0,0,ρ,⟨#[]⟩,0⟩
theorem Kf (x:Nm):RS (fg x):=fun _ _ _ _ _ _ _ _ _ _ _ _ _ _ _ _ _ h hS=>LU h hS (fg x) rfl
theorem Ii {x:Nm} (hx:bB x.1 x.2=τ):cW (fg x)=0:=by
 show(if bB x.1 x.2=τ∧eH (fg x)=τ∧fg x=j5 (fg x) then(if dv (ByteArray.mk #[])=τ then(0:Int) else 4) else 1)=0
 rw[if_pos ⟨hx,rfl,rfl⟩,if_pos (show dv (ByteArray.mk #[])=τ from rfl)]
theorem yF {α:Type} {k:α→Nm}:∀{l:List α} {x:Nm},(l.map k).Nodup→nL k l x=τ→(fo k l x).length+1=l.length
 |[],_,_,h=>by obtain⟨v,hv,-⟩:=cT.1 h;cases hv
 |a::l,x,hn,h=>by
  rw[ι,List.nodup_cons] at hn;unfold fo
  by_cases q:k a=x
  ·have h0:l.filter (fun v=>decide (¬k v=x))=l:=by
    rw[List.filter_eq_self];exact fun b hb=>decide_eq_true (fun r=>hn.1 (Α.2 ⟨b,hb,r.trans q.symm⟩))
   simp only[Jbm];rw[if_neg (by simp[q])]
   first|rw[h0]|(have h1:=h0;simp at h1 ⊢;rw[h1])
   rfl
  ·have h2:nL k l x=τ:=by
    obtain⟨v,hv,e⟩:=cT.1 h;rcases Η.1 hv with rfl|hv
    ·exact absurd e q
    ·exact cT.2 ⟨v,hv,e⟩
   have h3:=yF hn.2 h2;unfold fo at h3;simp only[Jbm];rw[if_pos (by simp[q]),JaH,JaH,h3]
theorem GZ {V:List VS} {E:List EC} {G:List Gn} (hS:il (V,E,G)) {u:VS} (hu:u∈V) {d:D} (hr:u.2.1=[d]) (hm:bB d.1 d.2.1=τ) (Ud:bB u.1.1 u.1.2=τ):∃G',fS (V,E,G) [fg (cN d),ig u.1]=((pQ V u.1 (da d),eI E (cN d),G'),0):=by
 have hd:=hS.fit.known u hu d (by rw[hr];exact Jao.2 rfl);have m1:cW (fg (cN d))=0:=Ii hm;have m2:cW (ig u.1)=0:=by rw[Ai,if_pos Ud]
 have me:iS [fg (cN d),ig u.1]=0:=by
  show(if cW (fg (cN d))=0 then(if cW (ig u.1)=0 then(0:Int) else cW (ig u.1)) else cW (fg (cN d)))=0
  rw[if_pos m1,if_pos m2]
 have h1:∃G',bO (V,E,G) (fg (cN d))=((dK (dK V (bg (cN d) 0)) (bg (cN d) 1),eI E (cN d),G'),0):=by
  refine⟨eA (eA G (bg (cN d) 0,dz V (bg (cN d) 0))) (bg (cN d) 1,dz V (bg (cN d) 1)),?_⟩
  show iJ (V,E,G) (cN d)=_;unfold iJ;rw[if_neg (by rw[show cx (V,E,G).2.1 (cN d)=τ from hd.1];decide)]
 obtain⟨G',h1⟩:=h1
 refine⟨G',?_⟩
 have hx:bH (dK (dK V (bg (cN d) 0)) (bg (cN d) 1)) u.1=τ:=by
  rw[mF (mT _ _),mF (mT _ _)];exact cT.2 ⟨u,hu,rfl⟩
 have Jy:=hS.fit.unlink (x:=cN d) hd.1 G'
 have tP:ck (dK (dK V (bg (cN d) 0)) (bg (cN d) 1)) u.1=[]:=by
  obtain⟨w,hw,ew⟩:=cT.1 hx;have ew:w.1=u.1:=ew;rw[←ew,jR Jy.vup.nodup hw];have jU:=hw;rw[←qS hS.fit (x:=cN d) hd.1,tf] at jU;obtain⟨v,hv,rfl⟩:=Α.1 jU;have ev:v=u:=kL hS.fit.vup.nodup hv hu ew;subst ev;show aJ (ft (aJ (ft v.2.1 (bg (cN d) 0))) (bg (cN d) 1))=[];have hn:v.2.1.Nodup:=iQ hS.fit.once hv;refine List.eq_nil_iff_forall_not_mem.2 (fun z hz=>?_);obtain⟨z1,hz⟩:=(jM (kJ (mY hn))).1 (e7.1 hz);obtain⟨z0,hz⟩:=(jM hn).1 (e7.1 hz);rw[hr] at hz;have hz:=Jao.1 hz;rcases hd.2 with q|q
  ·exact z0 (by rw[hz];exact(ki rfl q))
  ·exact z1 (by rw[hz];exact(ki rfl q))
 unfold fS;rw[if_pos me]
 show(if (bO (V,E,G) (fg (cN d))).2=0 then hY (bO (V,E,G) (fg (cN d))).1 [ig u.1] else(cC,(bO (V,E,G) (fg (cN d))).2))=_
 rw[h1,if_pos rfl]
 have h2:bO (dK (dK V (bg (cN d) 0)) (bg (cN d) 1),eI E (cN d),G') (ig u.1)=((pQ V u.1 (da d),eI E (cN d),G'),0):=by
  show fX _ u.1=_;unfold fX;rw[if_neg (by rw[hx];decide),if_neg (fun q=>q tP)];rw[←LB hS.fit hu hr]
 show(if (bO (dK (dK V (bg (cN d) 0)) (bg (cN d) 1),eI E (cN d),G') (ig u.1)).2=0 then((bO (dK (dK V (bg (cN d) 0)) (bg (cN d) 1),eI E (cN d),G') (ig u.1)).1,(0:Int)) else(cC,(bO (dK (dK V (bg (cN d) 0)) (bg (cN d) 1),eI E (cN d),G') (ig u.1)).2))=_
 rw[h2,if_pos rfl]
theorem LA {E:List EC} {x:Nm} (h:cx E x=τ):(iw E x).1∈E∧(iw E x).1.1=x∧(iw E x).2=τ:=by
 have h2:(iw E x).2=τ:=(oO E x).trans h;revert h2;unfold iw BL;split
 ·rename_i v hv;intro _;exact⟨List.mem_of_find?_eq_some hv,by have q:=List.find?_some hv;simpa using q,rfl⟩
 ·intro q;cases q
theorem Jk {W:ο} {A:Option Addr} {n c:Nat} {Vs:List VC} {B:Option Addr} {m k:Nat} {Es:List EC} {C:Option Addr} {r rc:Nat} {G:List Gn} (h:aO W A n c Vs B m k Es) (hg:aS W W.heap.size 6 C r rc (ao cj G)) (hS:il (Vs.map vS,Es,G)):n≤24∧m≤40∧Vs.length=n∧Es.length=m:=by
 have h1:Vs.length=n:=h.v.rlen aN (by decide);have h2:Es.length=m:=h.e.rlen cM (by decide);have h4:=hS.v24;have h5:Es.length≤40:=hS.e40;rw[Ρ] at h4;exact⟨by omega,by omega,h1,h2⟩
def QF (T:SS) (v:ψ) (W:ο):Prop:=∃A n c Vs B m k Es C r rc G,v=φ #[γ A n c,γ B m k,γ C r rc]∧aO W A n c Vs B m k Es∧aS W W.heap.size 6 C r rc (ao cj G)∧(Vs.map vS,Es,G)=T
theorem QF.up {T:SS} {v:ψ} {W W':ο} (h:QF T v W) (hx:Ext W W'):QF T v W':=by
 obtain⟨A,n,c,Vs,B,m,k,Es,C,r,rc,G,e,h1,h2,h3⟩:=h;exact⟨A,n,c,Vs,B,m,k,Es,C,r,rc,G,e,h1.bl hx,h2.bl hx,h3⟩
def GG (T:SS) (v:ψ) (W:ο):Prop:=∃A n c Vs B m k Es C r rc G,v=.tuple #[φ #[γ A n c,γ B m k,γ C r rc],J 0]∧aO W A n c Vs B m k Es∧aS W W.heap.size 6 C r rc (ao cj G)∧(Vs.map vS,Es,G)=T
theorem GG.up {T:SS} {v:ψ} {W W':ο} (h:GG T v W) (hx:Ext W W'):GG T v W':=by
 obtain⟨A,n,c,Vs,B,m,k,Es,C,r,rc,G,e,h1,h2,h3⟩:=h;exact⟨A,n,c,Vs,B,m,k,Es,C,r,rc,G,e,h1.bl hx,h2.bl hx,h3⟩
theorem DA (o p:cO):ao aa [o,p]=aa o++aa p:=by simp[ao]
theorem CB (Al:Option Addr) (nl cl:Nat) (Ls:List Wl) (x1 x2:Int) (w:ο) (h:J9 w Al nl cl Ls):
 Ζ η 11 #[γ Al nl cl,φ #[J x1,J x2]] w fun e w'=>e=.returned (.bool τ)∧σ w.heap.size w w':=by
 have HI:Hid (∀X,σ w.heap.size w X→J9 X Al nl cl Ls):=qh (fun X hX=>⟨h.row.bl hX,h.few,fun e he=>⟨(h.ops e he).1.bl hX,(h.ops e he).2⟩⟩);clear h;go_enter Tryz.func11,Tryz.ntmps11;go_upto_region 1 with fail
 obtain⟨W0,b3,bJ,g0,TH,bn,-,-,-⟩:=LJ w 30 [J x1,J x2];rw[bJ,g0];clear bJ g0
 go_upto_region 2 with (first
  |(go_at_call 12
    refine(zN _).mono ?_
    rintro e w2 ⟨rfl,ar⟩;have cX:=qh ar;clear ar))
 have ar:=cX.out;have aX:=qh (TH.out.bl ar);have cp:=qh (af bn.out ar);obtain⟨o9,LD⟩:=az w2;rw[LD] at cp aX ⊢;clear LD ar cX bn TH
 go_upto_region 3 with (first
  |(go_at_call 26
    refine(F7 il dt (fun S L h=>h.try_ L) (fun S h=>h) Al nl cl Ls _ (HI.out _ cp.out)).mono ?_
    rintro e w2 ⟨S,hP,A1,n1,c1,B1,m1,k1,C1,r1,mH,kG,rfl,hd,hm,hg,ar⟩;have cX:=qh ar;have HP:=qh hP;have HD:=qh hd;have HM:=qh hm;have HG:=qh hg;clear ar hP hd hm hg))
 have ar:=cX.out;have jP:=qh (aF (af cp.out ar) (δ #[γ A1 n1 c1,γ B1 m1 k1,γ C1 r1 mH] 28));have dJ:=qh ((aX.out.bl ar).al (δ #[γ A1 n1 c1,γ B1 m1 k1,γ C1 r1 mH] 28));have By:=qh (HD.out.bl (ax _ (δ #[γ A1 n1 c1,γ B1 m1 k1,γ C1 r1 mH] 28)));have FI:=qh (HG.out.bl (ax _ (δ #[γ A1 n1 c1,γ B1 m1 k1,γ C1 r1 mH] 28)));have pz:=qh (Whole.new_ w2 28 [γ A1 n1 c1,γ B1 m1 k1,γ C1 r1 mH]);obtain⟨CO,di⟩:=az (w2.alloc (δ #[γ A1 n1 c1,γ B1 m1 k1,γ C1 r1 mH] 28));obtain⟨b6,dD⟩:=az w2.heap.size;rw[di] at jP dJ By FI pz ⊢;rw[dD] at pz ⊢;clear di dD ar cX cp aX HD HG;obtain⟨S_V,uE,Pj⟩:=S
 have HS:Hid (il (kG.map vS,uE,Pj)):=qh (by
  rw[show kG.map vS=S_V from HM.out];exact HP.out)
 clear HM HP;obtain⟨xa,R5,lX,qJ⟩:=Jk By.out FI.out HS.out;have Io:=qh lX;have BW:=qh qJ;clear lX qJ;obtain⟨⟨⟨i1,i2⟩,⟨rA,rn,bE,rL⟩,lb,at_⟩,ok,Rh⟩:∃u b,aU kG (x1,x2)=(u,b):=⟨_,_,rfl⟩
 have L7:=qh Rh
 have HV:Hid (∀X,aO X A1 n1 c1 kG B1 m1 k1 uE→Ζ η 27 #[φ #[γ A1 n1 c1,γ B1 m1 k1],φ #[J x1,J x2]] X fun e w'=>e=.returned (.tuple #[φ #[J i1,J i2,γ rA rn bE,μ lb,J at_],.bool ok])∧σ X.heap.size X w'):=qh (fun X hX=>by
  have h1:=fN A1 n1 c1 kG B1 m1 k1 uE x1 x2 X hX.v (by omega);rw[Rh] at h1;exact h1)
 clear Rh;have lJ:Hid (bH (kG.map vS) (x1,x2)=ok):=qh (by rw[←(dh kG (x1,x2)).1,L7.out]);have oK:=pz.out.cell (i:=0) rfl;have oN:=pz.out.cell (i:=1) rfl;have AX:=dJ.out.cell (i:=0) rfl;have BC:=dJ.out.cell (i:=1) rfl
 go_upto_region 4 with (first
  |(go_at_call 27
    refine(HV.out _ By.out).mono ?_
    rintro e w2 ⟨rfl,ar⟩;have cX:=qh ar;clear ar oK oN AX BC))
 have ar:=cX.out;have iN:=qh (aF (af jP.out ar) (δ #[J i1,J i2,γ rA rn bE,μ lb,J at_] 59));have dq:=qh ((dJ.out.bl ar).al (δ #[J i1,J i2,γ rA rn bE,μ lb,J at_] 59));have jh:=qh ((pz.out.bl ar).al (δ #[J i1,J i2,γ rA rn bE,μ lb,J at_] 59));have s6:=qh ((By.out.bl ar).bl (ax _ (δ #[J i1,J i2,γ rA rn bE,μ lb,J at_] 59)));have vt:=qh ((FI.out.bl ar).bl (ax _ (δ #[J i1,J i2,γ rA rn bE,μ lb,J at_] 59)));have ph:=qh (Whole.new_ w2 59 [J i1,J i2,γ rA rn bE,μ lb,J at_]);obtain⟨yz,di⟩:=az (w2.alloc (δ #[J i1,J i2,γ rA rn bE,μ lb,J at_] 59));obtain⟨b7,dD⟩:=az w2.heap.size;rw[di] at iN dq jh s6 vt ph ⊢;rw[dD] at ph ⊢;clear di dD ar cX jP dJ pz By FI;cases ok with
 |false=>
  go_wp2;go_ret;exact⟨rfl,iN.out⟩
 |true=>
  obtain⟨Me,Yo,-⟩:=Lf lJ.out;rw[L7.out] at Me Yo;obtain⟨rfl,rfl⟩:=Prod.mk.inj (show((i1,i2):Nm)=(x1,x2) from Yo);have UQ:vS ((i1,i2),(rA,rn,bE,rL),lb,at_)∈kG.map vS:=Α.2 ⟨_,Me,rfl⟩;have Ud:bB i1 i2=τ:=(HS.out.vm _ UQ).1;have aW:ck (kG.map vS) (i1,i2)=rL:=by rw[←(dh kG (i1,i2)).2,L7.out]
  have Dc:Hid (∀X,aO X A1 n1 c1 kG B1 m1 k1 uE→aS X X.heap.size 3 rA rn bE (aA rL)):=qh (fun X hX=>(hX.r _ Me).2);have jd:rL.length=rn:=(Dc.out _ s6.out).dlen;clear Yo
  by_cases hz:rn=0
  ·subst hz;obtain rfl:rL=[]:=List.length_eq_zero_iff.1 jd
   have HN:Hid (∀X,aO X A1 n1 c1 kG B1 m1 k1 uE→aS X X.heap.size 6 C1 r1 mH (ao cj Pj)→Ζ η 14 #[φ #[γ A1 n1 c1,γ B1 m1 k1,γ C1 r1 mH],φ (aa (ig (i1,i2))).toArray] X (ti X ((cK (kG.map vS) (i1,i2),uE,Pj),0))):=qh (fun X hX hG=>by
    have h1:=yS hX hG HS.out (ig (i1,i2)) (uh rfl);rw[show lM (kG.map vS,uE,Pj) (ig (i1,i2))=((cK (kG.map vS) (i1,i2),uE,Pj),0) from((Ee _ Ud).trans (by unfold fX;rw[if_neg (by rw[lJ.out];decide),if_neg (fun q=>q aW)]))] at h1;exact h1)
   have oK:=jh.out.cell (i:=0) rfl;have oN:=jh.out.cell (i:=1) rfl;have La:=jh.out.cell (i:=2) rfl;have AX:=dq.out.cell (i:=0) rfl;have BC:=dq.out.cell (i:=1) rfl
   go_upto_region 7 with (first
    |(go_at_call 14
      refine(HN.out _ s6.out vt.out).mono ?_
      rintro e w2 ⟨ar,hq⟩;have cX:=qh ar;obtain⟨-,A2,n2,c2,V2,B2,m2,k2,E2,C2,r2,mW,G2,rfl,MT,he⟩:=hq.resolve_right (fun q=>q.1 rfl);have tC:=qh MT.dg;have fK:=qh MT.gone;have Af:=qh he;clear ar hq MT he oK oN La AX BC))
   have ar:=cX.out;have jq:=qh (aF (af iN.out ar) (δ #[γ A2 n2 c2,γ B2 m2 k2,γ C2 r2 mW] 28));have fT:=qh ((dq.out.bl ar).al (δ #[γ A2 n2 c2,γ B2 m2 k2,γ C2 r2 mW] 28));have dj:=qh ((jh.out.bl ar).al (δ #[γ A2 n2 c2,γ B2 m2 k2,γ C2 r2 mW] 28));have j9:=qh ((ph.out.bl ar).al (δ #[γ A2 n2 c2,γ B2 m2 k2,γ C2 r2 mW] 28));have vE:=qh ((s6.out.bl ar).bl (ax _ (δ #[γ A2 n2 c2,γ B2 m2 k2,γ C2 r2 mW] 28)));have xH:=qh ((vt.out.bl ar).bl (ax _ (δ #[γ A2 n2 c2,γ B2 m2 k2,γ C2 r2 mW] 28)));have RH:=qh (tC.out.bl (ax _ (δ #[γ A2 n2 c2,γ B2 m2 k2,γ C2 r2 mW] 28)));have P5:=qh (fK.out.bl (ax _ (δ #[γ A2 n2 c2,γ B2 m2 k2,γ C2 r2 mW] 28)));have o7:=qh (Whole.new_ w2 28 [γ A2 n2 c2,γ B2 m2 k2,γ C2 r2 mW]);obtain⟨pF,di⟩:=az (w2.alloc (δ #[γ A2 n2 c2,γ B2 m2 k2,γ C2 r2 mW] 28));obtain⟨b9,dD⟩:=az w2.heap.size;rw[di] at jq fT dj j9 vE xH RH P5 o7 ⊢;rw[dD] at o7 ⊢;clear di dD ar cX iN dq jh ph s6 vt tC fK;have JX:=j9.out.cell (i:=2) rfl;go_wp2;go_ret;exact⟨rfl,jq.out⟩
  ·have hzi:¬(rn:Int)=0:=by omega
   have HN:Hid (∀X,aO X A1 n1 c1 kG B1 m1 k1 uE→aS X X.heap.size 6 C1 r1 mH (ao cj Pj)→Ζ η 14 #[φ #[γ A1 n1 c1,γ B1 m1 k1,γ C1 r1 mH],φ (aa (ig (i1,i2))).toArray] X (ti X (cC,14))):=qh (fun X hX hG=>by
    have h1:=yS hX hG HS.out (ig (i1,i2)) (uh rfl);rw[show lM (kG.map vS,uE,Pj) (ig (i1,i2))=(cC,14) from((Ee _ Ud).trans (by unfold fX;rw[if_neg (by rw[lJ.out];decide),if_pos (show ¬ck (kG.map vS) (i1,i2)=[] from fun q=>hz (by rw[←jd,←aW,q];rfl))]))] at h1;exact h1)
   have oK:=jh.out.cell (i:=0) rfl;have oN:=jh.out.cell (i:=1) rfl;have La:=jh.out.cell (i:=2) rfl;have AX:=dq.out.cell (i:=0) rfl;have BC:=dq.out.cell (i:=1) rfl
   go_upto_region 7 with (first
    |(go_at_call 14
      refine(HN.out _ s6.out vt.out).mono ?_
      rintro e w2 ⟨ar,hq⟩;have cX:=qh ar;obtain⟨-,rfl⟩:=hq.resolve_left (fun q=>absurd q.1 (by decide));clear ar hq oK oN La AX BC))
   have ar:=cX.out;have jq:=qh (aF (af iN.out ar) (δ #[γ ε 0 0,γ ε 0 0,γ ε 0 0] 28));have fT:=qh ((dq.out.bl ar).al (δ #[γ ε 0 0,γ ε 0 0,γ ε 0 0] 28));have dj:=qh ((jh.out.bl ar).al (δ #[γ ε 0 0,γ ε 0 0,γ ε 0 0] 28));have j9:=qh ((ph.out.bl ar).al (δ #[γ ε 0 0,γ ε 0 0,γ ε 0 0] 28));have vE:=qh ((s6.out.bl ar).bl (ax _ (δ #[γ ε 0 0,γ ε 0 0,γ ε 0 0] 28)));have xH:=qh ((vt.out.bl ar).bl (ax _ (δ #[γ ε 0 0,γ ε 0 0,γ ε 0 0] 28)));have o7:=qh (Whole.new_ w2 28 [γ ε 0 0,γ ε 0 0,γ ε 0 0]);obtain⟨pF,di⟩:=az (w2.alloc (δ #[γ ε 0 0,γ ε 0 0,γ ε 0 0] 28));obtain⟨b9,dD⟩:=az w2.heap.size;rw[di] at jq fT dj j9 vE xH o7 ⊢;rw[dD] at o7 ⊢;clear di dD ar cX iN dq jh ph s6 vt;clear o7
   by_cases ho:rn=1
   ·subst ho;have JX:=j9.out.cell (i:=2) rfl;go_upto_region 13 with fail
    clear JX
    obtain⟨⟨d1,d2,d3⟩,rfl⟩:∃d,rL=[d]:=by
     match rL,jd with
     |[d],_=>exact⟨d,rfl⟩
    have CA:=HS.out.fit.known _ UQ (d1,d2,d3) (Jao.2 rfl)
    have hmd:bB d1 d2=τ:=by
     obtain⟨h1,h2,-⟩:=LA (E:=uE) (x:=(d1,d2)) CA.1;have h3:=(HS.out.em _ h1).1;rw[h2] at h3;exact h3
    obtain⟨Gt,hed⟩:=GZ HS.out UQ (d:=(d1,d2,d3)) rfl hmd Ud;obtain⟨bb,off,rfl,bZ,hc⟩:=(Dc.out _ vE.out).darts (by omega);obtain⟨c0,Fe,-⟩:=hc 0 (by show 0<1;omega);simp only[Nat.zero_mul,Nat.add_zero,List.getD_cons_zero] at c0 Fe;have xz:=qh c0;have ES:=qh Fe;have Iz:=qh bZ;clear hc c0 Fe bZ;obtain⟨T,gT⟩:∃T:SS,(pQ (kG.map vS) (i1,i2) (da (d1,d2,d3)),eI uE (d1,d2),Gt)=T:=⟨_,rfl⟩
    have HGT:=qh gT;have P7:fS (kG.map vS,uE,Pj) [fg (d1,d2),ig (i1,i2)]=(T,0):=by rw[←gT];exact hed
    have HAp:Hid (∀y,Ext pF.drew y→∀q,aS y y.heap.size 20 (ζ ⟨q,0,ε⟩) 2 2 (ao aa [fg (d1,d2),ig (i1,i2)])→Ζ η 18 #[φ #[γ A1 n1 c1,γ B1 m1 k1,γ C1 r1 mH],φ #[γ (ζ ⟨q,0,ε⟩) 2 2]] y (ti y (T,0))):=qh (fun y hy q hr=>by
     have hx:σ pF.heap.size pF y:=(Θ _ pF).drew.trans hy
     have h1:=xX (vE.out.bl hx) (xH.out.bl hx) HS.out (ζ ⟨q,0,ε⟩) 2 2 [fg (d1,d2),ig (i1,i2)] hr (by decide) (fun o ho=>by
      rcases Η.1 ho with rfl|ho
      ·exact Kf _
      ·obtain rfl:=Jao.1 ho;exact uh rfl)
     rw[P7] at h1;exact h1)
    clear gT;have mS:Hid (∀y,Ext pF.drew y→y.cell? ⟨b6,0,ε⟩=ζ (γ A1 n1 c1)∧y.cell? ⟨b6,1,ε⟩=ζ (γ B1 m1 k1)∧y.cell? ⟨b6,2,ε⟩=ζ (γ C1 r1 mH)∧y.cell? ⟨b7,2,ε⟩=ζ (γ (ζ ⟨bb,off,ε⟩) 1 bE)∧y.cell? ⟨b3,0,ε⟩=ζ (J i1)∧y.cell? ⟨b3,1,ε⟩=ζ (J i2)∧y.cell? ⟨bb,off,ε⟩=ζ (J d1)∧y.cell? ⟨bb,off+1,ε⟩=ζ (J d2)):=qh (fun y hy=>⟨(dj.out.dr.bl hy).cell (i:=0) rfl,(dj.out.dr.bl hy).cell (i:=1) rfl,(dj.out.dr.bl hy).cell (i:=2) rfl,(j9.out.dr.bl hy).cell (i:=2) rfl,(fT.out.dr.bl hy).cell (i:=0) rfl,(fT.out.dr.bl hy).cell (i:=1) rfl,(((Θ _ pF).drew.trans hy).cell (p:=⟨bb,off,ε⟩) Iz.out).trans xz.out,(((Θ _ pF).drew.trans hy).cell (p:=⟨bb,off+1,ε⟩) Iz.out).trans ES.out⟩)
    refine fJ 16 14 (dS pF.heap.size) (yU [fun v W=>v=φ #[γ A1 n1 c1,γ B1 m1 k1,γ C1 r1 mH],fun v W=>v=υ (ζ ⟨b7,2,ε⟩),fun v W=>v=γ (ζ ⟨bb,off,ε⟩) 1 bE,fun v W=>v=υ (ζ ⟨bb,off,ε⟩),fun v W=>v=υ (ζ ⟨bb,off,ε⟩),fun v W=>v=φ #[J d1,J d2],fun v W=>v=φ (aa (fg (d1,d2))).toArray,fun v W=>v=φ #[J i1,J i2],fun v W=>v=φ (aa (ig (i1,i2))).toArray,fun v W=>∃q,v=γ (ζ ⟨q,0,ε⟩) 2 2∧aS W (World.heap W).size 20 (ζ ⟨q,0,ε⟩) 2 2 (ao aa [fg (d1,d2),ig (i1,i2)]),fun v W=>∃q,v=φ #[γ (ζ ⟨q,0,ε⟩) 2 2]∧aS W (World.heap W).size 20 (ζ ⟨q,0,ε⟩) 2 2 (ao aa [fg (d1,d2),ig (i1,i2)]),fun v W=>GG T (v) (W),fun v W=>GG T (v) (W),fun v W=>QF T (v) (W),fun v W=>v=J 0,fun v W=>∃q,v=υ (ζ ⟨q,0,ε⟩)∧pF.heap.size≤q∧Whole (W) q 28 [γ ε 0 0,γ ε 0 0,γ ε 0 0]]) (Ext pF.drew) (by kernel_rfl) (by kernel_rfl) (by kernel_rfl) (by kernel_rfl) (by kernel_rfl) (by kernel_rfl) (by simp only[List.getElem?_toArray,List.getElem?_cons_succ,List.getElem?_cons_zero];exact rfl) (by kernel_rfl) (by kernel_rfl) (by kernel_rfl) ?_ (pw (by
     intro Q hQ v w1 w2 h hx;simp only[Η,List.not_mem_nil,or_false] at hQ;rcases hQ with rfl|rfl|rfl|rfl|rfl|rfl|rfl|rfl|rfl|rfl|rfl|rfl|rfl|rfl|rfl|rfl
     ·exact(fun v w1 w2 h hx=>h) v w1 w2 h hx
     ·exact(fun v w1 w2 h hx=>h) v w1 w2 h hx
     ·exact(fun v w1 w2 h hx=>h) v w1 w2 h hx
     ·exact(fun v w1 w2 h hx=>h) v w1 w2 h hx
     ·exact(fun v w1 w2 h hx=>h) v w1 w2 h hx
     ·exact(fun v w1 w2 h hx=>h) v w1 w2 h hx
     ·exact(fun v w1 w2 h hx=>h) v w1 w2 h hx
     ·exact(fun v w1 w2 h hx=>h) v w1 w2 h hx
     ·exact(fun v w1 w2 h hx=>h) v w1 w2 h hx
     ·exact(fun v w1 w2 h hx=>(by obtain⟨q,e,h1⟩:=h;exact⟨q,e,h1.bl hx⟩)) v w1 w2 h hx
     ·exact(fun v w1 w2 h hx=>(by obtain⟨q,e,h1⟩:=h;exact⟨q,e,h1.bl hx⟩)) v w1 w2 h hx
     ·exact(fun v w1 w2 h hx=>GG.up h hx) v w1 w2 h hx
     ·exact(fun v w1 w2 h hx=>GG.up h hx) v w1 w2 h hx
     ·exact(fun v w1 w2 h hx=>QF.up h hx) v w1 w2 h hx
     ·exact(fun v w1 w2 h hx=>h) v w1 w2 h hx
     ·exact(fun v w1 w2 h hx=>(by obtain⟨q,e1,e2,e3⟩:=h;exact⟨q,e1,e2,e3.bl hx⟩)) v w1 w2 h hx)) (fun _ _ h k=>h.trans k) (Ext.refl _) ?_ ?_ ?_
    ·exact fun _ _ _ _ h=>h
    ·intro i Mt;have jc:i=0∨i=1∨i=2∨i=3∨i=4∨i=5∨i=6∨i=7∨i=8∨i=9∨i=10∨i=11∨i=12∨i=13∨i=14∨i=15:=by omega
     rcases jc with rfl|rfl|rfl|rfl|rfl|rfl|rfl|rfl|rfl|rfl|rfl|rfl|rfl|rfl|rfl|rfl
     ·refine aL ?_;intro xf y hg aH;obtain⟨tT,pC,nD,tW,Eu,Mk,EZ,Mg⟩:=mS.out _ hg;simp only[aM,ι,π,aB,ξ,ak,aj,ah];refine .inl ⟨by rfl,?_⟩;go_simp;exact⟨Ext.refl _,rfl⟩
     ·refine aL ?_;intro xf y hg aH;simp only[aM,ι,π,aB,ξ,ak,aj,ah];refine .inl ⟨by rfl,?_⟩;go_simp;exact⟨Ext.refl _,rfl⟩
     ·refine aL ?_;intro xf y hg aH;have d1:xf 1=υ (ζ ⟨b7,2,ε⟩):=aH 1 (by decide);obtain⟨tT,pC,nD,tW,Eu,Mk,EZ,Mg⟩:=mS.out _ hg;simp only[aM,ι,π,aB,ξ,ak,aj,ah];simp only[d1];refine .inl ⟨by rfl,?_⟩;go_simp;exact⟨Ext.refl _,rfl⟩
     ·refine aL ?_;intro xf y hg aH;have d2:xf 2=γ (ζ ⟨bb,off,ε⟩) 1 bE:=aH 2 (by decide);simp only[aM,ι,π,aB,ξ,ak,aj,ah];simp only[d2];refine .inl ⟨by rfl,?_⟩;go_simp;exact⟨Ext.refl _,rfl⟩
     ·refine aL ?_;intro xf y hg aH;have d3:xf 3=υ (ζ ⟨bb,off,ε⟩):=aH 3 (by decide);simp only[aM,ι,π,aB,ξ,ak,aj,ah];simp only[d3];refine .inl ⟨by rfl,?_⟩;go_simp;exact⟨Ext.refl _,rfl⟩
     ·refine aL ?_;intro xf y hg aH;have d4:xf 4=υ (ζ ⟨bb,off,ε⟩):=aH 4 (by decide);obtain⟨tT,pC,nD,tW,Eu,Mk,EZ,Mg⟩:=mS.out _ hg;simp only[aM,ι,π,aB,ξ,ak,aj,ah];simp only[d4];refine .inl ⟨by rfl,?_⟩;go_simp;exact⟨Ext.refl _,rfl⟩
     ·refine aL ?_;intro xf y hg aH;have d5:xf 5=φ #[J d1,J d2]:=aH 5 (by decide);simp only[aM,ι,π,aB,ξ,ak,aj,ah];simp only[d5];refine .inl ⟨by rfl,?_⟩;go_simp;exact⟨Ext.refl _,rfl⟩
     ·refine aL ?_;intro xf y hg aH;obtain⟨tT,pC,nD,tW,Eu,Mk,EZ,Mg⟩:=mS.out _ hg;simp only[aM,ι,π,aB,ξ,ak,aj,ah];refine .inl ⟨by rfl,?_⟩;go_simp;exact⟨Ext.refl _,rfl⟩
     ·refine aL ?_;intro xf y hg aH;have d7:xf 7=φ #[J i1,J i2]:=aH 7 (by decide);simp only[aM,ι,π,aB,ξ,ak,aj,ah];simp only[d7];refine .inl ⟨by rfl,?_⟩;go_simp;exact⟨Ext.refl _,rfl⟩
     ·refine aL ?_;intro xf y hg aH;have d6:xf 6=φ (aa (fg (d1,d2))).toArray:=aH 6 (by decide);have d8:xf 8=φ (aa (ig (i1,i2))).toArray:=aH 8 (by decide);simp only[aM,ι,π,aB,ξ,ak,aj,ah];simp only[d6,d8];refine .inl ⟨by rfl,gZ (w':=y.alloc (δ (aa (fg (d1,d2))++aa (ig (i1,i2))).toArray 36)) (dV 47 36 2 #[(0,.tmp 58),(1,.tmp 60)] (by rfl) Tryz.underlying47 (aa (fg (d1,d2))++aa (ig (i1,i2))).toArray (by kernel_rfl)) (ax _ _) ?_⟩;exact⟨_,rfl,by rw[DA];exact aS.of_whole (Whole.new_ _ _ _) rfl⟩
     ·refine aL ?_;intro xf y hg aH;obtain⟨q9,d9,mO⟩:∃q,xf 9=γ (ζ ⟨q,0,ε⟩) 2 2∧aS y (World.heap y).size 20 (ζ ⟨q,0,ε⟩) 2 2 (ao aa [fg (d1,d2),ig (i1,i2)]):=aH 9 (by decide)
      simp only[aM,ι,π,aB,ξ,ak,aj,ah];simp only[d9];refine .inl ⟨by rfl,?_⟩;go_simp
      refine⟨Ext.refl _,?_⟩
      show ∃q,(_:ψ)=φ #[γ (ζ ⟨q,0,ε⟩) 2 2]∧aS y (World.heap y).size 20 (ζ ⟨q,0,ε⟩) 2 2 (ao aa [fg (d1,d2),ig (i1,i2)])
      exact⟨_,rfl,mO⟩
     ·refine aL ?_;intro xf y hg aH;have d0:xf 0=φ #[γ A1 n1 c1,γ B1 m1 k1,γ C1 r1 mH]:=aH 0 (by decide);obtain⟨q10,d10,On⟩:∃q,xf 10=φ #[γ (ζ ⟨q,0,ε⟩) 2 2]∧aS y (World.heap y).size 20 (ζ ⟨q,0,ε⟩) 2 2 (ao aa [fg (d1,d2),ig (i1,i2)]):=aH 10 (by decide)
      simp only[aM,ι,π,aB,ξ,ak,aj,ah];simp only[d0,d10];refine .inl ⟨by rfl,dy (by go_simp;first|done|exact⟨rfl,rfl⟩|with_reducible rfl) ?_⟩
      refine(HAp.out y hg q10 On).mono ?_
      rintro e w2 ⟨hb,h3⟩;obtain⟨-,A',n',c',V',B',m',k',E',C',r',p9,G',rfl,xb,Fp⟩:=h3.resolve_right (fun q=>q.1 rfl)
      refine⟨_,rfl,hb,?_⟩
      show GG T _ w2;exact⟨_,_,_,_,_,_,_,_,_,_,_,_,rfl,xb.dg,xb.gone,Fp⟩
     ·refine aL ?_;intro xf y hg aH;obtain⟨A11,n11,c11,V11,B11,m11,k11,E11,C11,r11,aeH,G11,d11,aaH,Zb,Ze⟩:GG T (xf 11) (y):=aH 11 (by decide);simp only[aM,ι,π,aB,ξ,ak,aj,ah];simp only[d11];refine .inl ⟨by rfl,?_⟩;go_simp
      refine⟨Ext.refl _,?_⟩
      show GG T ((_:ψ)) (y);exact⟨_,_,_,_,_,_,_,_,_,_,_,_,rfl,aaH,Zb,Ze⟩
     ·refine aL ?_;intro xf y hg aH;obtain⟨A12,n12,Xd,V12,B12,m12,k12,E12,C12,r12,V7,G12,d12,QC,RE,Su⟩:GG T (xf 12) (y):=aH 12 (by decide);simp only[aM,ι,π,aB,ξ,ak,aj,ah];simp only[d12];refine .inl ⟨by rfl,?_⟩;go_simp
      refine⟨Ext.refl _,?_⟩
      show QF T ((_:ψ)) (y);exact⟨_,_,_,_,_,_,_,_,_,_,_,_,rfl,QC,RE,Su⟩
     ·refine aL ?_;intro xf y hg aH;obtain⟨A12,n12,Xd,V12,B12,m12,k12,E12,C12,r12,V7,G12,d12,QC,RE,Su⟩:GG T (xf 12) (y):=aH 12 (by decide);simp only[aM,ι,π,aB,ξ,ak,aj,ah];simp only[d12];refine .inl ⟨by rfl,?_⟩;go_simp;exact⟨Ext.refl _,rfl⟩
     ·refine aL ?_;intro xf y hg aH;simp only[aM,ι,π,aB,ξ,ak,aj,ah];refine .inl ⟨by rfl,gZ (w':=y.alloc (δ #[γ ε 0 0,γ ε 0 0,γ ε 0 0] 28)) (by go_simp;first|done|exact rfl|exact⟨rfl,rfl⟩) (ax _ _) ?_⟩;show ∃q,(_:ψ)=υ (ζ ⟨q,0,ε⟩)∧pF.heap.size≤q∧Whole (y.alloc (δ #[γ ε 0 0,γ ε 0 0,γ ε 0 0] 28)) q 28 [γ ε 0 0,γ ε 0 0,γ ε 0 0]
      exact⟨y.heap.size,rfl,hg.size,Whole.new_ _ _ [γ ε 0 0,γ ε 0 0,γ ε 0 0]⟩
    ·intro xf y hg bW;obtain⟨A12,n12,Xd,V12,B12,m12,k12,E12,C12,r12,V7,G12,d12,QC,RE,Su⟩:GG T (xf 12) (y):=bW 12 (by decide) (by decide);simp only[aM,ι,π,aB,ξ,ak,aj,ah];simp only[d12]
     refine⟨J 0,?_,rfl⟩
     apply dm;rfl;intro w' aC;go_simp;(try with_reducible rfl)
    intro xf y hg bW;obtain⟨A2,n2,c2,V2,B2,m2,k2,E2,C2,r2,mW,G2,d13,Rf,lF,Mr⟩:QF T (xf 13) (y):=bW 13 (by decide);have d14:xf 14=J 0:=bW 14 (by decide);obtain⟨gt,d15,eS,hwt⟩:∃q,xf 15=υ (ζ ⟨q,0,ε⟩)∧pF.heap.size≤q∧Whole (y) q 28 [γ ε 0 0,γ ε 0 0,γ ε 0 0]:=bW 15 (by decide)
    simp only[aM,ι,π,aB,ξ,ak,aj,ah];simp only[d13,d14,d15];clear bW d13 d14 d15;have tC:=qh Rf;have fK:=qh lF;have Af:=qh Mr;clear Rf lF Mr;have mV:=qh hwt;have tg:=qh (af (ba (Θ _ pF)) hg);have sG:Hid (pF.heap.size≤gt):=qh eS;clear eS hwt;refine lp 16 ?_;intro w' aC
    refine⟨w'.setRow gt #[γ A2 n2 c2,γ B2 m2 k2,γ C2 r2 mW],cn 28 (.tmp 11) (.tmp 64) rfl gt rfl [γ A2 n2 c2,γ B2 m2 k2,γ C2 r2 mW] rfl 28 [γ ε 0 0,γ ε 0 0,γ ε 0 0] (mV.out.bl aC) (by kernel_rfl) rfl (by simp[Value.oneCell']),eD (show pF.heap.size≤gt from sG.out) _,?_⟩
    have qp:Hid (Whole (w'.setRow gt #[γ A2 n2 c2,γ B2 m2 k2,γ C2 r2 mW]) gt 28 [γ A2 n2 c2,γ B2 m2 k2,γ C2 r2 mW]):=qh (Whole.row (mV.out.bl aC) [γ A2 n2 c2,γ B2 m2 k2,γ C2 r2 mW]);have j6:Hid (σ pF.heap.size pF (w'.setRow gt #[γ A2 n2 c2,γ B2 m2 k2,γ C2 r2 mW])):=qh (eB (af tg.out aC) sG.out _);have Ky:=qh (sI (tC.out.bl aC) (mV.out.bl aC) (aP (fun i=>by simp) (fun i=>by simp) (fun i=>by simp)) #[γ A2 n2 c2,γ B2 m2 k2,γ C2 r2 mW]);have IV:=qh ((fK.out.bl aC).row_far (lB (xr (fK.out.bl aC) (mV.out.bl aC) (aP (fun i=>by simp) (fun i=>by simp) (fun i=>by simp)))) #[γ A2 n2 c2,γ B2 m2 k2,γ C2 r2 mW]);obtain⟨V1,jr⟩:=az (w'.setRow gt #[γ A2 n2 c2,γ B2 m2 k2,γ C2 r2 mW]);rw[jr] at qp j6 Ky IV ⊢;clear aC jr mV tg;refine aq 17 ?_;refine aG (by kernel_rfl) ?_ _;intro W8 ch;have Xz:=qh (qp.out.bl ch);have HBt:=qh (af j6.out ch);have tC:=qh (Ky.out.bl ch);have fK:=qh (IV.out.bl ch);clear Ky IV;clear ch qp j6;have cX:=HBt;clear HBt mS HAp sG;have ar:=cX.out;have lE:=qh (fT.out.bl ar);have eM:=qh (dj.out.bl ar);have bY:=qh (j9.out.bl ar);have tk:=qh (vE.out.bl ar);have LM:=qh (xH.out.bl ar);have oJ:=qh (af jq.out ar);obtain⟨uG,Vm⟩:=az W8;rw[Vm] at Xz tC fK oJ lE eM bY tk LM ⊢
    clear Vm ar cX jq fT dj j9 vE xH;obtain⟨b11,Wn⟩:=az gt;rw[Wn] at Xz ⊢;clear Wn gt
    have gE:Hid (il (V2.map vS,E2,G2)):=qh (by
     have h1:=HS.out.edit [fg (d1,d2),ig (i1,i2)];rw[P7] at h1;rw[Af.out];exact h1)
    obtain⟨Fi,NW,aaI,Ye⟩:=Jk tC.out fK.out gE.out;have hT:(V2.map vS,E2,G2)=(pQ (kG.map vS) (i1,i2) (da (d1,d2,d3)),eI uE (d1,d2),Gt):=Af.out.trans HGT.out.symm;have MD:oG kG uE V2 E2 (vS ((i1,i2),(ζ ⟨bb,off,ε⟩,1,bE,[(d1,d2,d3)]),lb,at_)) (d1,d2,d3):=⟨HS.out.formed rfl,gE.out.formed rfl,UQ,rfl,congrArg (fun z:SS=>z.1) hT,congrArg (fun z:SS=>z.2.1) hT,HS.out.fit.turned⟩;have HFl:Hid (nN V2 E2≤nN kG uE):=qh MD.faces;have NO:Hid (mN (fP V2)=mN (fP kG)):=qh MD.parts
    have hq1:n2+1=n1:=by
     have h1:=yF (k:=fun v:VS=>v.1) HS.out.fit.vup.nodup lJ.out;have h2:(V2.map vS).length=(cK (kG.map vS) (i1,i2)).length:=by rw[MD.hV];exact Ρ ..
     have h3:(cK (kG.map vS) (i1,i2)).length+1=(kG.map vS).length:=h1;rw[←h2,Ρ,Ρ,aaI,Io.out] at h3;exact h3
    have hq2:m2+1=m1:=by
     have h1:=yF (k:=fun e:EC=>e.1) HS.out.fit.eup.nodup CA.1;have h2:E2.length=(eI uE (d1,d2)).length:=by rw[MD.hE];rfl
     have h3:(eI uE (d1,d2)).length+1=uE.length:=h1;rw[←h2,Ye,BW.out] at h3;exact h3
    have q1i:(n2:Int)=(n1:Int) - 1:=by omega
    have q2i:(m2:Int)=(m1:Int) - 1:=by omega
    obtain⟨F1,gF1⟩:=az (nN kG uE);obtain⟨F2,gF2⟩:=az (nN V2 E2);obtain⟨K1,Zz⟩:=az (mN (fP kG));have QT:Hid (∀X,aO X A1 n1 c1 kG B1 m1 k1 uE→Ζ η 40 #[φ #[γ A1 n1 c1,γ B1 m1 k1]] X fun e w'=>∃A' c',e=.returned (γ A' F1 c')∧σ X.heap.size X w'):=qh (fun X hX=>gF1▸vB MD.hf X hX);have TZ:Hid (∀X,aO X A2 n2 c2 V2 B2 m2 k2 E2→Ζ η 40 #[φ #[γ A2 n2 c2,γ B2 m2 k2]] X fun e w'=>∃A' c',e=.returned (γ A' F2 c')∧σ X.heap.size X w'):=qh (fun X hX=>gF2▸vB MD.hg X hX);have Xw:Hid (∀X,aO X A1 n1 c1 kG B1 m1 k1 uE→Ζ η 41 #[φ #[γ A1 n1 c1,γ B1 m1 k1]] X fun e w'=>e=.returned (J (K1:Int))∧σ X.heap.size X w'):=qh (fun X hX=>Zz▸qu A1 n1 c1 kG B1 m1 k1 uE X hX MD.hf)
    have XJ:Hid (∀X,aO X A2 n2 c2 V2 B2 m2 k2 E2→Ζ η 41 #[φ #[γ A2 n2 c2,γ B2 m2 k2]] X fun e w'=>e=.returned (J (K1:Int))∧σ X.heap.size X w'):=qh (fun X hX=>by
     have h1:=qu A2 n2 c2 V2 B2 m2 k2 E2 X hX MD.hg;rw[NO.out,Zz] at h1;exact h1)
    have afO:(F2:Int)≤(F1:Int):=by have:=HFl.out;omega
    clear hed P7 hT MD gF1 gF2 Zz HFl NO HGT Af UQ Me aW CA hmd;have oK:=eM.out.cell (i:=0) rfl;have oN:=eM.out.cell (i:=1) rfl
    go_upto_region 15 with (first
     |(go_at_call 40
       refine(QT.out _ tk.out).mono ?_
       rintro e w2 ⟨FA,fc,rfl,ar⟩;have cX:=qh ar;clear ar oK oN))
    have ar:=cX.out;have pd:=qh (lE.out.bl ar);have kf:=qh (eM.out.bl ar);have eh:=qh (bY.out.bl ar);have vJ:=qh (Xz.out.bl ar);have Fc:=qh (tk.out.bl ar);have Kv:=qh (LM.out.bl ar);have Cj:=qh (tC.out.bl ar);have DF:=qh (fK.out.bl ar);have uT:=qh (af oJ.out ar);obtain⟨CF,UJ⟩:=az w2;rw[UJ] at uT pd kf eh vJ Fc Kv Cj DF ⊢;clear UJ ar cX oJ lE eM bY Xz tk LM tC fK;have oK:=kf.out.cell (i:=0) rfl;have oN:=kf.out.cell (i:=1) rfl
    go_upto_region 16 with (first
     |(go_at_call 41
       refine(Xw.out _ Fc.out).mono ?_
       rintro e w2 ⟨rfl,ar⟩;have cX:=qh ar;clear ar oK oN))
    have ar:=cX.out;have MP:=qh (pd.out.bl ar);have yZ:=qh (kf.out.bl ar);have mU:=qh (eh.out.bl ar);have oZ:=qh (vJ.out.bl ar);have Ux:=qh (Fc.out.bl ar);have Vi:=qh (Kv.out.bl ar);have CT:=qh (Cj.out.bl ar);have Rr:=qh (DF.out.bl ar);have Gv:=qh (af uT.out ar);obtain⟨W17,TI⟩:=az w2;rw[TI] at Gv MP yZ mU oZ Ux Vi CT Rr ⊢;clear TI ar cX uT pd kf eh vJ Fc Kv Cj DF;have RM:=oZ.out.cell (i:=0) rfl;have Sy:=oZ.out.cell (i:=1) rfl;have oK:=yZ.out.cell (i:=0) rfl;have oN:=yZ.out.cell (i:=1) rfl
    go_wp2_with (first
     |(go_at_call 41
       refine(XJ.out _ CT.out).mono ?_
       rintro e w2 ⟨rfl,ar⟩;have cX:=qh ar;have Ua:=qh (CT.out.bl ar);have fz0:=(oZ.out.bl ar).cell (i:=0) rfl;have fz1:=(oZ.out.bl ar).cell (i:=1) rfl;clear ar RM Sy oK oN)
     |(go_at_call 40
       refine(TZ.out _ Ua.out).mono ?_
       rintro e w3 ⟨FB,fd,rfl,bw⟩;have jX:=qh (af cX.out bw);clear bw fz0 fz1))
    go_ret;exact⟨rfl,af Gv.out jX.out⟩
   ·have hoi:¬(rn:Int)=1:=by omega
    have JX:=j9.out.cell (i:=2) rfl;go_wp2;go_ret;exact⟨rfl,jq.out⟩
def MN (p:Int × Int):List ψ:=[J p.1,J p.2]
theorem mu (H:Type):Row1 H η 30 MN (fun _ _=>True):=
 (jH Tryz.underlying30 (by kernel_rfl) (cu (k:=1) (nU Tryz.underlying3) rfl (by kernel_rfl) (cu (k:=1) (nU Tryz.underlying3) rfl (by kernel_rfl) (kQ _)))).map
   (fun a=>(a.1,a.2.1)) (fun _=>rfl) (fun _ _ _=>trivial)
def Sj (d:Int × Int × Int):List ψ:=[J d.1,J d.2.1,J d.2.2]
theorem Ck (H:Type):Row1 H η 32 Sj (fun _ _=>True):=
 (jH Tryz.underlying32 (by kernel_rfl) (cu (k:=2) (mu H) rfl (by kernel_rfl) (cu (k:=1) (nU Tryz.underlying3) rfl (by kernel_rfl) (kQ _)))).map
   (fun a=>(a.1.1,a.1.2,a.2.1)) (fun _=>rfl) (fun _ _ _=>trivial)
def MK (d:Int × Int × Int × Int × Int):List ψ:=[J d.1,J d.2.1,J d.2.2.1,J d.2.2.2.1,J d.2.2.2.2]
theorem tl (H:Type):Row1 H η 34 MK (fun _ _=>True):=
 (jH Tryz.underlying34 (by kernel_rfl) (cu (k:=2) (mu H) rfl (by kernel_rfl) (cu (k:=3) (Ck H) rfl (by kernel_rfl) (kQ _)))).map
   (fun a=>(a.1.1,a.1.2,a.2.1.1,a.2.1.2.1,a.2.1.2.2)) (fun _=>rfl) (fun _ _ _=>trivial)
theorem Na (H:Type):Row1 H η 36 aa (fun _ o=>o.t.size≤maxLen):=
 (jH Tryz.underlying36 (by kernel_rfl) (cu (k:=1) (nU Tryz.underlying3) rfl (by kernel_rfl) (cu (k:=2) (mu H) rfl (by kernel_rfl) (cu (k:=2) (mu H) rfl (by kernel_rfl) (cu (k:=2) (mu H) rfl (by kernel_rfl)
   (cu (k:=5) (tl H) rfl (by kernel_rfl) (cu (k:=5) (tl H) rfl (by kernel_rfl) (cu (k:=1) (Hf Tryz.underlying4) rfl (by kernel_rfl) (cu (k:=1) (AE Tryz.underlying9) rfl (by kernel_rfl)
   (cu (k:=1) (nU Tryz.underlying3) rfl (by kernel_rfl) (kQ _))))))))))).map
   (fun a=>⟨a.1,a.2.1.1,a.2.1.2,a.2.2.1.1,a.2.2.1.2,a.2.2.2.1.1,a.2.2.2.1.2,a.2.2.2.2.1.1,a.2.2.2.2.1.2.1,a.2.2.2.2.1.2.2.1,a.2.2.2.2.1.2.2.2.1,a.2.2.2.2.1.2.2.2.2,
     a.2.2.2.2.2.1.1,a.2.2.2.2.2.1.2.1,a.2.2.2.2.2.1.2.2.1,a.2.2.2.2.2.1.2.2.2.1,a.2.2.2.2.2.1.2.2.2.2,a.2.2.2.2.2.2.1,a.2.2.2.2.2.2.2.1,a.2.2.2.2.2.2.2.2.1⟩) (fun _=>rfl) (fun _ _ h=>h.2.2.2.2.2.2.2.1)
theorem G5 (H:Type):Row1 H η 49 (x7 (α:=cO)) (Rt 20 aa (fun _ o=>o.t.size≤maxLen)):=
 (jH Tryz.underlying49 (by kernel_rfl) (cu (k:=1) (uH (Na H) Tryz.underlying47 (by kernel_rfl) cP (by decide)) rfl (by kernel_rfl) (kQ _))).map
   (fun a=>a.1) (fun _=>by simp) (fun _ _ h=>h.1)
section
open Go.ChangeShapes Go.WideShapes Go.ChangeAt Go.RowKit
namespace lawEditLeaves
theorem contract (H:Type) (enc:TypeId × ψ→H) (W:ο) (base:Nat) (args:Array ψ) (ds gs:List (DataW H)) (before:List MemPlace)
 (Jo:∀(j:Nat) t v,Tryz.f11.params[j]? =ζ t→args[j]? =ζ v→Value.okWide η W .any base t v)
 (hW:DataW.Whole enc η Tryz.f11.params.toList Rows.editLeavesSpec.vars ρ W args.toList ds gs before):
 Ζ η 11 args W fun e W'=>∃v,e=.returned v∧Rows.editLeavesSpec.post enc η Tryz.f11 ρ τ ρ ρ W args v W':=by
 have ZY:=hW;obtain⟨p,q,hA,hV,rfl,hfz,ZQ⟩:=hW;obtain⟨rfl,rfl⟩:=trodVars_none hV;rw[Tryz.params11] at hA Jo;obtain⟨v0,v1,d0,d1,p0,p1,rfl,rfl,rfl,h0,h1⟩:=trodAll_two hA;obtain⟨l,rfl,kc⟩:=tI (G5 H) Tryz.underlying44 (by kernel_rfl) (fun _=>rfl) (by decide) (Jo 0 44 v0 rfl rfl) h0;obtain⟨x,rfl,kI⟩:=sx (mu H) Tryz.underlying30 (Jo 1 30 v1 rfl rfl) h1
 refine(CB l.1 l.2.1 l.2.2.1 l.2.2.2 x.1 x.2 W ⟨kc.2.1,Λ kc.2.1.le kc.1,fun e q=>⟨(kc.2.2 e q).2.1,Λ (kc.2.2 e q).2.1.le (kc.2.2 e q).1,(kc.2.2 e q).2.2⟩⟩).mono fun e W' ⟨he,hb⟩=>⟨_,he,?_⟩
 exact J4 Tryz.laidOut (by kernel_rfl) (tb:=4) (by kernel_rfl) Tryz.underlying4 rfl ⟨rfl,rfl,rfl⟩ ZY hb
theorem lifted (os:Os) (started:os.Started) (H:Type) (enc:TypeId × ψ→H):
 ReturnsInHanded {} Tryz.checked os 11 .any (Rows.editLeavesSpec.pre6 enc η Tryz.f11 Rows.editLeavesRow.domain ρ) (Rows.editLeavesSpec.post enc η Tryz.f11 ρ τ ρ ρ):=by
 refine returnsInHanded_of_change (C:=Tryz.checked) Tryz.own started (by kernel_rfl) Tryz.func11
  (ChangeSpec.witness6 (enc:=enc) (C:=Tryz.checked) ρ ⟨#[],#[γ ε 0 0,φ #[J 0,J 0]],[]⟩ 8 (by kernel_rfl) (by kernel_rfl) (by kernel_rfl) (by kernel_rfl)) ?_
 intro W base args ds gs before Jo hW _ _;exact contract H enc W base args ds gs before Jo hW
theorem proved:Rows.EditLeavesSaid:=
 OpenClaim.holds_of_wide 11 Tryz.f11 rfl rfl rfl rfl rfl rfl rfl ⟨rfl,rfl,rfl,rfl,rfl⟩ rfl rfl rfl rfl rfl (by kernel_rfl) Tryz.func11 (by kernel_rfl)
  (of_decide_eq_true (by kernel_rfl)) (by unfold Func.isWrapper;first|(rw[if_pos (by decide+kernel)];kernel_rfl)|(rw[if_neg (by decide+kernel)];exact⟨rfl,rfl⟩))
  (fun os started H enc _=>lifted os started H enc)
end lawEditLeaves
end
end Go.Proofs.YtpdpbfmiahjiiaaGreat
