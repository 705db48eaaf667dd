/- Several texts in one. -/
import Derived.Test.YtpdpbfmiahjiiaaGreatPzA
import Derived.Test.YtpdpbfmiahjiiaaGreatPzC
import Derived.Test.YtpdpbfmiahjiiaaGreatPzE
import Derived.Test.YtpdpbfmiahjiiaaGreatPzH
import Derived.Test.YtpdpbfmiahjiiaaGreatPzI
import Derived.Test.YtpdpbfmiahjiiaaGreatPzK
set_option linter.unusedSectionVars false
set_option linter.unusedSimpArgs false
set_option linter.unusedVariables false
set_option maxRecDepth 100000
set_option maxHeartbeats 16000000
namespace Go.Proofs.YtpdpbfmiahjiiaaGreat
open Go.RowKit
open _root_.Go.Value renaming slice→γ,pointer→υ,agg→φ,bool→Β,tuple→Ξ,oneCell'→Τ
open _root_.Go.Obj renaming cells→δ
open _root_.Option renaming none→ε,some→ζ
open _root_.Go.Proofs.Tryz renaming prog→η
open _root_.List renaming getElem?_eq_getElem→θ,map_cons→ι,getElem?_eq_some_iff→ν,map_nil→π,mem_of_getElem?→ω,mem_map→Α,mem_cons→Η,take_of_length_le→Ι,length_map→Ρ,drop_eq_getElem_cons→Χ,getElem?_map→Ψ,getElem?_cons_succ→Jag,getElem?_cons_zero→Jah,getElem?_toArray→Jaj,take_add_one→Jbc,not_mem_nil→Jbh
open _root_.Go.Act renaming put→ξ
open _root_.Go renaming World→ο,Value→ψ,Calls→Ζ,Addr→Κ,wp_region_lit→Jam
open _root_.Bool renaming false→ρ,true→τ,and_eq_true→Jar
open _root_.Go.RowKit renaming Below→σ
open _root_.Nat renaming le_refl→Δ,le_trans→Λ,add_zero→Jac,zero_le→Jas
open _root_.Go.RowKit.Below renaming refl→Θ
open _root_.Option.some renaming inj→Μ
open _root_.Go.Addr renaming add_lit→Ν
open _root_.ByteArray renaming empty→Jaf
theorem MO (a b c x y z:Int) (X:ο):(binOp .neq 32 (φ #[J a,J b,J c]) (φ #[J x,J y,J z])).run η X=.ok (Β (!decide ((a,b,c)=(x,y,z)))) X:=by
 by_cases h1:a=x
 ·by_cases h2:b=y
  ·by_cases h3:c=z
   ·simp[go_sem,h1,h2,h3]
   ·simp[go_sem,h1,h2,h3]
  ·simp[go_sem,h1,h2]
 ·simp[go_sem,h1]
theorem gD.linked {S:SS} (h:gD S) {x:Nm} (m1:dK x.1 x.2=τ) (hE:bI S.2.1 x=ρ) (hl:¬40≤S.2.1.length) {a b:Nm × D} (ha:bu S.1 a.1=τ) (hb:bu S.1 b.1=τ):
 gD (cO (cO S.1 a (bh x 0)) b (bh x 1),gH S.2.1 (x,Jaf,0),S.2.2):=by
 refine⟨h.fit.link hE ha hb _,by show(cO _ _ _).length≤24;unfold cO;rw[fE,fE];exact h.v24,by show(gH _ _).length≤40;unfold gH;rw[ll];omega,h.g400,?_,fun e he=>?_,h.gr⟩
 ·exact jU (P:=fun x t=>dK x.1 x.2=τ∧cQ t.1=τ∧eR t.2=τ) (jU (P:=fun x t=>dK x.1 x.2=τ∧cQ t.1=τ∧eR t.2=τ) h.vm)
 ·rcases cy.1 he with rfl|he
  ·exact⟨m1,pg,o4⟩
  ·exact h.em e he
theorem uq {V:List VS} {q:Nat} (h:∀v∈V,v.2.1.length≤q) (y:Nm × D) (x:D):∀v∈cO V y x,v.2.1.length≤q+1:=fun v hv=>by
 rcases iA hv with⟨h1,h2⟩|⟨u,hu,h1,h2⟩
 ·exact Nat.le_succ_of_le (h v h1)
 ·rw[h2]
  show(aM (ja (eS V y.1) y.2 x)).length≤q+1
  rw[pP];have h3:=K2 (eS V y.1) y.2 x
  have h4:(eS V y.1).length≤q:=by
   unfold eS;cases hf:V.find? (fun v=>decide (v.1=y.1)) with
   |none=>exact Jas _
   |some u=>exact h u (List.mem_of_find?_eq_some hf)
  omega
theorem CN {U V:List VS} (e:U.map (·.1)=V.map (·.1)) (x:Nm):bu U x=bu V x:=by
 have h:∀U:List VS,bu U x=(U.map (·.1)).any (fun k=>decide (k=x)):=fun U=>by
  unfold bu pf;rw[List.any_map];rfl
 rw[h,h,e]
theorem pJ {Vs:List VC} (hk:(Vs.map (·.1)).Nodup) {i:Nat} {u v:VC} (hu:Vs[i]? =ζ u) {y:Nm × D} (hy:u.1=y.1) {x:D} (h1:v.1=u.1) (h2:v.2.1.2.2.2=aM (ja u.2.1.2.2.2 y.2 x)) (h3:v.2.2=u.2.2):(Vs.set i v).map vS=cO (Vs.map vS) y x:=by
 have hr:=tg hk hu;rw[hy] at hr;unfold cO dS;rw[hr];apply List.ext_getElem?;intro j;rw[List.map_set,List.getElem?_set,Ψ,Ψ,Ψ,Ρ];have hi:=(ν.1 hu).1
 by_cases ur:i=j
 ·subst ur;rw[if_pos rfl,if_pos hi,hu];show ζ (v.1,v.2.1.2.2.2,v.2.2)=ζ (if u.1=y.1 then tN (vS u) _ else vS u);rw[if_pos hy,h1,h2,h3];rfl
 ·rw[if_neg ur];cases hj:Vs[j]? with
  |none=>rfl
  |some t=>
   have bj:¬t.1=y.1:=fun e=>by
    have q1:(Vs.map (·.1))[j]? =ζ t.1:=by rw[Ψ,hj];rfl
    have q2:(Vs.map (·.1))[i]? =ζ u.1:=by rw[Ψ,hu];rfl
    exact ur ((List.getElem?_inj (by simpa using hi) hk).1 (q2.trans (by rw[q1,e,hy])))
   show ζ (vS t)=ζ (if t.1=y.1 then tN (vS t) _ else vS t);rw[if_neg bj]
section
variable {w W:ο} {lo g:Nat} {A:Option Κ} {n c:Nat} {Vs:List VC} {B:Option Κ} {m k:Nat} {Es:List EC} {C:Option Κ} {r rc:Nat} {G:List Gn}
theorem Vk (h:bK w lo g A n c Vs B m k Es C r rc G W) (hS:gD (Vs.map vS,Es,G)) (o:dR) (h1:bI Es (bL o)=τ):Ζ η 92 #[υ (ζ ⟨g,0,ε⟩),φ (ak o).toArray] W (cG w W lo g (fO eO (Vs.map vS,Es,G) (bL o) (uC o) (jh o))):=by
 obtain⟨hn,hm,hr,fy⟩:=hS.n24 h;have gK:Es.length=m:=h.elen;have qR:Hid (∀X,bK w lo g A n c Vs B m k Es C r rc G X→Ζ η 113 #[υ (ζ ⟨g,0,ε⟩),φ #[J o.s,J o.n]] X fun e w'=>e=.returned (J (dX (fun v:EC=>v.1) Es (bL o)))∧σ X.heap.size X w'):=qh (fun X hX=>dG g A n c B m k C r rc o.s o.n Es X hX.s (aK hX.e) (by omega));have HR:Hid (fO eO (Vs.map vS,Es,G) (bL o) (uC o) (jh o)=(dv,12)):=qh (by unfold fO;rw[if_pos h1]);obtain⟨i1,v1,e1,-,-,-⟩:=ck (k:=fun v:EC=>v.1) (l:=Es) h1;rw[e1] at qR;clear e1;clear hS fy gK;have H:=qh h;clear h;go_enter Tryz.func92,Tryz.ntmps92;go_upto_region 1 with fail
 obtain⟨W1,aV⟩:=aB (W.alloc (δ (ak o).toArray 36));have aL:Hid (Whole W1 W.heap.size 36 (ak o)):=qh (by rw[←aV];exact Whole.new_ _ _ _);have cB:Hid (bK w lo g A n c Vs B m k Es C r rc G W1):=qh (by rw[←aV];exact H.out.al _);have bE:Hid (σ W.heap.size W W1):=qh (by rw[←aV];exact az _ _);rw[aV];clear aV H;have Nb:Hid (W.heap.size≠g):=qh (aL.out.ne_ cB.out.s (by decide));obtain⟨b0,bp⟩:=aB W.heap.size;rw[bp] at aL Nb ⊢;clear bp;have gM:=aL.out.cell (i:=1) rfl;have gO:=aL.out.cell (i:=2) rfl
 go_wp2_with (first
  |(go_at_call 113
    refine(qR.out _ cB.out).mono ?_
    rintro e w2 ⟨rfl,aP⟩;have cY:=qh (cB.out.bl aP);have aZ:=qh (aL.out.bl aP);have bG:=qh (ag bE.out aP);clear aP cB aL bE gM gO;have s0:=cY.out.s.cell (i:=0) rfl;have s1:=cY.out.s.cell (i:=1) rfl))
 go_ret;exact cG.no HR.out (by decide) rfl cY.out.below (aJ.of_below bG.out)
theorem VZ (h:bK w lo g A n c Vs B m k Es C r rc G W) (hS:gD (Vs.map vS,Es,G)) (o:dR) (h1:bI Es (bL o)=ρ) (h2:40≤m):Ζ η 92 #[υ (ζ ⟨g,0,ε⟩),φ (ak o).toArray] W (cG w W lo g (fO eO (Vs.map vS,Es,G) (bL o) (uC o) (jh o))):=by
 obtain⟨hn,hm,hr,fy⟩:=hS.n24 h;have gK:Es.length=m:=h.elen;have qR:Hid (∀X,bK w lo g A n c Vs B m k Es C r rc G X→Ζ η 113 #[υ (ζ ⟨g,0,ε⟩),φ #[J o.s,J o.n]] X fun e w'=>e=.returned (J (dX (fun v:EC=>v.1) Es (bL o)))∧σ X.heap.size X w'):=qh (fun X hX=>dG g A n c B m k C r rc o.s o.n Es X hX.s (aK hX.e) (by omega));have HR:Hid (fO eO (Vs.map vS,Es,G) (bL o) (uC o) (jh o)=(dv,3)):=qh (by unfold fO;rw[if_neg (by rw[h1];decide),if_pos (by rw[gK];exact h2)]);have e1:=dH (k:=fun v:EC=>v.1) (l:=Es) h1;rw[e1] at qR;clear e1;have h2i:(40:Int)≤(m:Int):=by omega
 clear hS fy gK;have H:=qh h;clear h;go_enter Tryz.func92,Tryz.ntmps92;go_upto_region 1 with fail
 obtain⟨W1,aV⟩:=aB (W.alloc (δ (ak o).toArray 36));have aL:Hid (Whole W1 W.heap.size 36 (ak o)):=qh (by rw[←aV];exact Whole.new_ _ _ _);have cB:Hid (bK w lo g A n c Vs B m k Es C r rc G W1):=qh (by rw[←aV];exact H.out.al _);have bE:Hid (σ W.heap.size W W1):=qh (by rw[←aV];exact az _ _);rw[aV];clear aV H;have Nb:Hid (W.heap.size≠g):=qh (aL.out.ne_ cB.out.s (by decide));obtain⟨b0,bp⟩:=aB W.heap.size;rw[bp] at aL Nb ⊢;clear bp;have gM:=aL.out.cell (i:=1) rfl;have gO:=aL.out.cell (i:=2) rfl
 go_wp2_with (first
  |(go_at_call 113
    refine(qR.out _ cB.out).mono ?_
    rintro e w2 ⟨rfl,aP⟩;have cY:=qh (cB.out.bl aP);have aZ:=qh (aL.out.bl aP);have bG:=qh (ag bE.out aP);clear aP cB aL bE gM gO;have s0:=cY.out.s.cell (i:=0) rfl;have s1:=cY.out.s.cell (i:=1) rfl))
 go_ret;exact cG.no HR.out (by decide) rfl cY.out.below (aJ.of_below bG.out)
theorem abc (h:bK w lo g A n c Vs B m k Es C r rc G W) (hS:gD (Vs.map vS,Es,G)) (o:dR) (h1:bI Es (bL o)=ρ) (h2:¬40≤m) (m1:dK o.s o.n=τ):Ζ η 92 #[υ (ζ ⟨g,0,ε⟩),φ (ak o).toArray] W (cG w W lo g (fO eO (Vs.map vS,Es,G) (bL o) (uC o) (jh o))):=by
 obtain⟨hn,hm,hr,fy⟩:=hS.n24 h;have gK:Es.length=m:=h.elen;have qR:Hid (∀X,bK w lo g A n c Vs B m k Es C r rc G X→Ζ η 113 #[υ (ζ ⟨g,0,ε⟩),φ #[J o.s,J o.n]] X fun e w'=>e=.returned (J (dX (fun v:EC=>v.1) Es (bL o)))∧σ X.heap.size X w'):=qh (fun X hX=>dG g A n c B m k C r rc o.s o.n Es X hX.s (aK hX.e) (by omega));have xT:∀v∈Vs,v.2.1.2.1≤1000000:=fun v hv=>by have:=fy v hv;omega
 obtain⟨qa,ea,HCa,HFa⟩:∃(q:Nm × D) (e0:Int),Hid (∀X,bK w lo g A n c Vs B m k Es C r rc G X→Ζ η 114 #[φ #[γ A n c,γ B m k,γ C r rc],φ #[J o.a0,J o.a1,J o.a2,J o.a3,J o.a4]] X fun e w'=>e=.returned (Ξ #[φ #[J q.1.1,J q.1.2,J q.2.1,J q.2.2.1,J q.2.2.2],J e0])∧σ X.heap.size X w')∧Hid ((bu (Vs.map vS) (uC o).1=τ→q=lz (Vs.map vS) G (uC o)∧e0=0)∧(bu (Vs.map vS) (uC o).1=ρ→e0=13)):=by
  cases hv:bu (Vs.map vS) (uC o).1 with
  |true=>
   refine⟨lz (Vs.map vS) G (uC o),0,qh (fun X hX=>?_),qh ⟨fun _=>⟨rfl,rfl⟩,fun q=>(by cases q)⟩⟩
   have:=wv A n c Vs B m k Es C r rc G o.a0 o.a1 o.a2 o.a3 o.a4 X hX.dg (by omega) xT (aK hX.gn) (by omega) ((tK Vs (o.a0,o.a1)).1.trans hv)
   rw[←hX.glen,Ho] at this;rw[←hX.glen];exact this
  |false=>
   refine⟨((0,0),(0,0,0)),13,qh (fun X hX=>?_),qh ⟨fun q=>(by cases q),fun _=>rfl⟩⟩
   exact ze A n c Vs B m k Es C r rc G o.a0 o.a1 o.a2 o.a3 o.a4 X hX.dg (by omega) xT (aK hX.gn) (by omega) ((tK Vs (o.a0,o.a1)).1.trans hv)
 obtain⟨qb,eb,HCb,HFb⟩:∃(q:Nm × D) (e0:Int),Hid (∀X,bK w lo g A n c Vs B m k Es C r rc G X→Ζ η 114 #[φ #[γ A n c,γ B m k,γ C r rc],φ #[J o.b0,J o.b1,J o.b2,J o.b3,J o.b4]] X fun e w'=>e=.returned (Ξ #[φ #[J q.1.1,J q.1.2,J q.2.1,J q.2.2.1,J q.2.2.2],J e0])∧σ X.heap.size X w')∧Hid ((bu (Vs.map vS) (jh o).1=τ→q=lz (Vs.map vS) G (jh o)∧e0=0)∧(bu (Vs.map vS) (jh o).1=ρ→e0=13)):=by
  cases hv:bu (Vs.map vS) (jh o).1 with
  |true=>
   refine⟨lz (Vs.map vS) G (jh o),0,qh (fun X hX=>?_),qh ⟨fun _=>⟨rfl,rfl⟩,fun q=>(by cases q)⟩⟩
   have:=wv A n c Vs B m k Es C r rc G o.b0 o.b1 o.b2 o.b3 o.b4 X hX.dg (by omega) xT (aK hX.gn) (by omega) ((tK Vs (o.b0,o.b1)).1.trans hv)
   rw[←hX.glen,Ho] at this;rw[←hX.glen];exact this
  |false=>
   refine⟨((0,0),(0,0,0)),13,qh (fun X hX=>?_),qh ⟨fun q=>(by cases q),fun _=>rfl⟩⟩
   exact ze A n c Vs B m k Es C r rc G o.b0 o.b1 o.b2 o.b3 o.b4 X hX.dg (by omega) xT (aK hX.gn) (by omega) ((tK Vs (o.b0,o.b1)).1.trans hv)
 have e1:=dH (k:=fun v:EC=>v.1) (l:=Es) h1;rw[e1] at qR;clear e1;have h2i:¬(40:Int)≤(m:Int):=by omega
 have tT:=qh hS;have QF:=qh h1;have BG:=qh fy;have KM:=qh m1;have VE:=qh gK;clear hS fy xT gK h1;have H:=qh h;clear h;go_enter Tryz.func92,Tryz.ntmps92;go_upto_region 1 with fail
 obtain⟨W1,aV⟩:=aB (W.alloc (δ (ak o).toArray 36));have aL:Hid (Whole W1 W.heap.size 36 (ak o)):=qh (by rw[←aV];exact Whole.new_ _ _ _);have cB:Hid (bK w lo g A n c Vs B m k Es C r rc G W1):=qh (by rw[←aV];exact H.out.al _);have bE:Hid (σ W.heap.size W W1):=qh (by rw[←aV];exact az _ _);rw[aV];clear aV H;have Nb:Hid (W.heap.size≠g):=qh (aL.out.ne_ cB.out.s (by decide));obtain⟨b0,bp⟩:=aB W.heap.size;rw[bp] at aL Nb ⊢;clear bp;have gM:=aL.out.cell (i:=1) rfl;have gO:=aL.out.cell (i:=2) rfl
 go_upto_region 5 with (first
  |(go_at_call 113
    refine(qR.out _ cB.out).mono ?_
    rintro e w2 ⟨rfl,aP⟩;have cY:=qh (cB.out.bl aP);have aZ:=qh (aL.out.bl aP);have bG:=qh (ag bE.out aP);clear aP cB aL bE gM gO;have s0:=cY.out.s.cell (i:=0) rfl;have s1:=cY.out.s.cell (i:=1) rfl))
 obtain⟨W3,kh⟩:=aB w2;rw[kh] at cY aZ bG ⊢;clear kh s0 s1
 have jB:Hid (∀y,Ext W3.drew y→y.cell? ⟨g,0,ε⟩=ζ (γ A n c)∧y.cell? ⟨g,1,ε⟩=ζ (γ B m k)∧y.cell? ⟨g,2,ε⟩=ζ (γ C r rc)∧y.cell? ⟨b0,7,ε⟩=ζ (J o.a0)∧y.cell? ⟨b0,8,ε⟩=ζ (J o.a1)∧y.cell? ⟨b0,9,ε⟩=ζ (J o.a2)∧y.cell? ⟨b0,10,ε⟩=ζ (J o.a3)∧y.cell? ⟨b0,11,ε⟩=ζ (J o.a4)):=qh (fun y hy=>
  ⟨(cY.out.dr.bl hy).s.cell (i:=0) rfl,(cY.out.dr.bl hy).s.cell (i:=1) rfl,(cY.out.dr.bl hy).s.cell (i:=2) rfl,(aZ.out.dr.bl hy).cell (i:=7) rfl,(aZ.out.dr.bl hy).cell (i:=8) rfl,(aZ.out.dr.bl hy).cell (i:=9) rfl,(aZ.out.dr.bl hy).cell (i:=10) rfl,(aZ.out.dr.bl hy).cell (i:=11) rfl⟩)
 refine cJ 10 8 (cw W3.heap.size) (tc [fun v W=>v=υ (ζ ⟨g,0,ε⟩),fun v W=>v=υ (ζ ⟨g,0,ε⟩),fun v W=>v=φ #[γ A n c,γ B m k,γ C r rc],fun v W=>v=υ (ζ ⟨b0,7,ε⟩),fun v W=>v=φ #[J o.a0,J o.a1,J o.a2,J o.a3,J o.a4],fun v W=>v=Ξ #[φ #[J qa.1.1,J qa.1.2,J qa.2.1,J qa.2.2.1,J qa.2.2.2],J ea],fun v W=>v=Ξ #[φ #[J qa.1.1,J qa.1.2,J qa.2.1,J qa.2.2.1,J qa.2.2.2],J ea],fun v W=>v=φ #[J qa.1.1,J qa.1.2,J qa.2.1,J qa.2.2.1,J qa.2.2.2],fun v W=>v=J ea,fun v W=>∃q,v=υ (ζ ⟨q,0,ε⟩)∧W3.heap.size≤q∧Whole (W) q 34 [J 0,J 0,J 0,J 0,J 0]]) (Ext W3.drew) (by kernel_rfl) (by kernel_rfl) (by kernel_rfl) (by kernel_rfl) (by kernel_rfl) (by kernel_rfl) (by simp only[Jaj,Jag,Jah];exact rfl) (by kernel_rfl) (by kernel_rfl) (by kernel_rfl) ?_ (jH (by
  intro Q hQ v w1 w2 h hx;simp only[Η,Jbh,or_false] at hQ;rcases hQ with rfl|rfl|rfl|rfl|rfl|rfl|rfl|rfl|rfl|rfl
  ·exact(fun v w1 w2 h hx=>h) v w1 w2 h hx
  ·exact(fun v w1 w2 h hx=>h) v w1 w2 h hx
  ·exact(fun v w1 w2 h hx=>h) v w1 w2 h hx
  ·exact(fun v w1 w2 h hx=>h) v w1 w2 h hx
  ·exact(fun v w1 w2 h hx=>h) v w1 w2 h hx
  ·exact(fun v w1 w2 h hx=>h) v w1 w2 h hx
  ·exact(fun v w1 w2 h hx=>h) v w1 w2 h hx
  ·exact(fun v w1 w2 h hx=>h) v w1 w2 h hx
  ·exact(fun v w1 w2 h hx=>h) v w1 w2 h hx
  ·exact(fun v w1 w2 h hx=>(by obtain⟨q,e1,e2,e3⟩:=h;exact⟨q,e1,e2,e3.bl hx⟩)) v w1 w2 h hx)) (fun _ _ h k=>h.trans k) (Ext.refl _) ?_ ?_ ?_
 ·exact fun _ _ _ _ h=>h
 ·intro i Ef;have dF:i=0∨i=1∨i=2∨i=3∨i=4∨i=5∨i=6∨i=7∨i=8∨i=9:=by omega
  rcases dF with rfl|rfl|rfl|rfl|rfl|rfl|rfl|rfl|rfl|rfl
  ·refine aH ?_;intro xf y hg aD;simp only[aE,ι,π,aj,ξ,aw,ar,aq];refine .inl ⟨by rfl,?_⟩;go_simp;exact⟨Ext.refl _,rfl⟩
  ·refine aH ?_;intro xf y hg aD;have d0:xf 0=υ (ζ ⟨g,0,ε⟩):=aD 0 (by decide);simp only[aE,ι,π,aj,ξ,aw,ar,aq];simp only[d0];refine .inl ⟨by rfl,?_⟩;go_simp;exact⟨Ext.refl _,rfl⟩
  ·refine aH ?_;intro xf y hg aD;have d1:xf 1=υ (ζ ⟨g,0,ε⟩):=aD 1 (by decide);obtain⟨qE,iQ,jd,qi,Lh,Uq,DZ,DX⟩:=jB.out _ hg;simp only[aE,ι,π,aj,ξ,aw,ar,aq];simp only[d1];refine .inl ⟨by rfl,?_⟩;go_simp;exact⟨Ext.refl _,rfl⟩
  ·refine aH ?_;intro xf y hg aD;simp only[aE,ι,π,aj,ξ,aw,ar,aq];refine .inl ⟨by rfl,?_⟩;go_simp;exact⟨Ext.refl _,rfl⟩
  ·refine aH ?_;intro xf y hg aD;have d3:xf 3=υ (ζ ⟨b0,7,ε⟩):=aD 3 (by decide);obtain⟨qE,iQ,jd,qi,Lh,Uq,DZ,DX⟩:=jB.out _ hg;simp only[aE,ι,π,aj,ξ,aw,ar,aq];simp only[d3];refine .inl ⟨by rfl,?_⟩;go_simp;exact⟨Ext.refl _,rfl⟩
  ·refine aH ?_;intro xf y hg aD;have d2:xf 2=φ #[γ A n c,γ B m k,γ C r rc]:=aD 2 (by decide);have d4:xf 4=φ #[J o.a0,J o.a1,J o.a2,J o.a3,J o.a4]:=aD 4 (by decide);simp only[aE,ι,π,aj,ξ,aw,ar,aq];simp only[d2,d4];refine .inl ⟨by rfl,cu (by go_simp;first|done|exact⟨rfl,rfl⟩|with_reducible rfl) ?_⟩
   refine(HCa.out y (cY.out.dr.bl hg)).mono ?_
   rintro e w2 ⟨rfl,hb⟩
   refine⟨_,rfl,hb,?_⟩
   show(_:ψ)=Ξ #[φ #[J qa.1.1,J qa.1.2,J qa.2.1,J qa.2.2.1,J qa.2.2.2],J ea]
   exact rfl
  ·refine aH ?_;intro xf y hg aD;have d5:xf 5=Ξ #[φ #[J qa.1.1,J qa.1.2,J qa.2.1,J qa.2.2.1,J qa.2.2.2],J ea]:=aD 5 (by decide);simp only[aE,ι,π,aj,ξ,aw,ar,aq];simp only[d5];refine .inl ⟨by rfl,?_⟩;go_simp;exact⟨Ext.refl _,rfl⟩
  ·refine aH ?_;intro xf y hg aD;have d6:xf 6=Ξ #[φ #[J qa.1.1,J qa.1.2,J qa.2.1,J qa.2.2.1,J qa.2.2.2],J ea]:=aD 6 (by decide);simp only[aE,ι,π,aj,ξ,aw,ar,aq];simp only[d6];refine .inl ⟨by rfl,?_⟩;go_simp;exact⟨Ext.refl _,rfl⟩
  ·refine aH ?_;intro xf y hg aD;have d6:xf 6=Ξ #[φ #[J qa.1.1,J qa.1.2,J qa.2.1,J qa.2.2.1,J qa.2.2.2],J ea]:=aD 6 (by decide);simp only[aE,ι,π,aj,ξ,aw,ar,aq];simp only[d6];refine .inl ⟨by rfl,?_⟩;go_simp;exact⟨Ext.refl _,rfl⟩
  ·refine aH ?_;intro xf y hg aD;simp only[aE,ι,π,aj,ξ,aw,ar,aq];refine .inl ⟨by rfl,dZ (w':=y.alloc (δ #[J 0,J 0,J 0,J 0,J 0] 34)) (by go_simp;first|done|exact rfl|exact⟨rfl,rfl⟩) (az _ _) ?_⟩;show ∃q,(_:ψ)=υ (ζ ⟨q,0,ε⟩)∧W3.heap.size≤q∧Whole (y.alloc (δ #[J 0,J 0,J 0,J 0,J 0] 34)) q 34 [J 0,J 0,J 0,J 0,J 0]
   exact⟨y.heap.size,rfl,hg.size,Whole.new_ _ _ [J 0,J 0,J 0,J 0,J 0]⟩
 ·intro xf y hg aX;have d6:xf 6=Ξ #[φ #[J qa.1.1,J qa.1.2,J qa.2.1,J qa.2.2.1,J qa.2.2.2],J ea]:=aX 6 (by decide) (by decide);simp only[aE,ι,π,aj,ξ,aw,ar,aq];simp only[d6]
  refine⟨J ea,?_,rfl⟩
  apply dD;rfl;intro w' aC;go_simp;(try with_reducible rfl)
 intro xf y hg aX;have d7:xf 7=φ #[J qa.1.1,J qa.1.2,J qa.2.1,J qa.2.2.1,J qa.2.2.2]:=aX 7 (by decide);have d8:xf 8=J ea:=aX 8 (by decide);obtain⟨ga,d9,hla,Pb⟩:∃q,xf 9=υ (ζ ⟨q,0,ε⟩)∧W3.heap.size≤q∧Whole (y) q 34 [J 0,J 0,J 0,J 0,J 0]:=aX 9 (by decide)
 simp only[aE,ι,π,aj,ξ,aw,ar,aq];simp only[d7,d8,d9];clear aX d7 d8 d9;have o9:=qh Pb;have qH:=qh (ag (aN (Θ _ W3)) hg);have Jk:Hid (W3.heap.size≤ga):=qh hla;clear hla Pb;refine gI 10 ?_;intro w' aC
 refine⟨w'.setRow ga #[J qa.1.1,J qa.1.2,J qa.2.1,J qa.2.2.1,J qa.2.2.2],aR 34 (.tmp 5) (.tmp 28) rfl ga rfl [J qa.1.1,J qa.1.2,J qa.2.1,J qa.2.2.1,J qa.2.2.2] rfl 34 [J 0,J 0,J 0,J 0,J 0] (o9.out.bl aC) (by kernel_rfl) rfl (by simp[Τ]),bN (show W3.heap.size≤ga from Jk.out) _,?_⟩
 have qP:Hid (Whole (w'.setRow ga #[J qa.1.1,J qa.1.2,J qa.2.1,J qa.2.2.1,J qa.2.2.2]) ga 34 [J qa.1.1,J qa.1.2,J qa.2.1,J qa.2.2.1,J qa.2.2.2]):=qh (Whole.row (o9.out.bl aC) [J qa.1.1,J qa.1.2,J qa.2.1,J qa.2.2.1,J qa.2.2.2]);have kn:Hid (σ W3.heap.size W3 (w'.setRow ga #[J qa.1.1,J qa.1.2,J qa.2.1,J qa.2.2.1,J qa.2.2.2])):=qh (bH (ag qH.out aC) Jk.out _);obtain⟨V1,fD⟩:=aB (w'.setRow ga #[J qa.1.1,J qa.1.2,J qa.2.1,J qa.2.2.1,J qa.2.2.2]);rw[fD] at qP kn ⊢;clear aC fD o9 qH;refine aa 11 ?_;refine aF (by kernel_rfl) ?_ _;intro W8 cg;have uP:=qh (qP.out.bl cg);have lX:=qh (ag kn.out cg);clear cg qP kn;have gE:=qh (cY.out.bl lX.out);have cF:=qh (aZ.out.bl lX.out);have bB:=qh (ag bG.out lX.out);clear cY aZ bG lX jB Jk HCa;cases ha:bu (Vs.map vS) (uC o).1 with
 |false=>
  obtain rfl:ea=13:=HFa.out.2 ha
  have HR:Hid (fO eO (Vs.map vS,Es,G) (bL o) (uC o) (jh o)=(dv,13)):=qh (by
   unfold fO;rw[if_neg (by rw[QF.out];decide),if_neg (by rw[VE.out];exact h2),if_pos (.inl ha)])
  go_wp2;go_ret;exact cG.no HR.out (by decide) rfl gE.out.below (aJ.of_below bB.out)
 |true=>
  obtain⟨PX,rfl⟩:=HFa.out.1 ha;have HQe:=qh PX;have HQa:Hid (bu (Vs.map vS) qa.1=τ):=qh (by rw[PX];exact ha);clear PX HFa;have HV:Hid (∀X,bK w lo g A n c Vs B m k Es C r rc G X→Ζ η 110 #[υ (ζ ⟨g,0,ε⟩),φ #[J o.b0,J o.b1]] X fun e w'=>e=.returned (J (dX (fun v:VC=>v.1) Vs (jh o).1))∧σ X.heap.size X w'):=qh (fun X hX=>fB g A n c B m k C r rc o.b0 o.b1 Vs X hX.s (aK hX.v) (by omega));go_upto_region 8 with fail
  obtain⟨W4,uQ⟩:=aB W8;rw[uQ] at gE cF bB uP ⊢;clear uQ;have l1:=cF.out.cell (i:=1) rfl;have l2:=cF.out.cell (i:=2) rfl
  go_upto_region 9 with (first
   |(go_at_call 115
     refine(lH o.s o.n _).mono ?_
     rintro e w5 ⟨rfl,fP⟩;have l6:=qh ((gE.out.bl fP).al (δ #[J o.s,J o.n,J 0,J o.s,J o.n,J 1] 141));have oK:=qh ((cF.out.bl fP).al (δ #[J o.s,J o.n,J 0,J o.s,J o.n,J 1] 141));have HW5:=qh ((uP.out.bl fP).al (δ #[J o.s,J o.n,J 0,J o.s,J o.n,J 1] 141));have kF:=qh (aI (ag bB.out fP) (δ #[J o.s,J o.n,J 0,J o.s,J o.n,J 1] 141));have XA:Hid (Whole (w5.alloc (δ #[J o.s,J o.n,J 0,J o.s,J o.n,J 1] 141)) w5.heap.size 141 [J o.s,J o.n,J 0,J o.s,J o.n,J 1]):=qh (Whole.new_ _ _ [_,_,_,_,_,_]);clear fP gE cF uP bB l1 l2))
  obtain⟨W5,sC⟩:=aB (w5.alloc (δ #[J o.s,J o.n,J 0,J o.s,J o.n,J 1] 141));obtain⟨b7,TA⟩:=aB w5.heap.size;rw[sC] at l6 oK HW5 kF XA ⊢;rw[TA] at XA ⊢;clear sC TA;have l12:=oK.out.cell (i:=12) rfl;have l13:=oK.out.cell (i:=13) rfl;have l14:=oK.out.cell (i:=14) rfl;have l15:=oK.out.cell (i:=15) rfl;have l16:=oK.out.cell (i:=16) rfl;go_upto_region 10 with fail
  have qL:=qh (az W5 (δ #[J o.b0,J o.b1,J o.b2,J o.b3,J o.b4] 34));have tm:Hid (Whole (W5.alloc (δ #[J o.b0,J o.b1,J o.b2,J o.b3,J o.b4] 34)) W5.heap.size 34 [J o.b0,J o.b1,J o.b2,J o.b3,J o.b4]):=qh (Whole.new_ _ _ [_,_,_,_,_]);have iF:=qh (l6.out.al (δ #[J o.b0,J o.b1,J o.b2,J o.b3,J o.b4] 34));have p9:=qh (oK.out.al (δ #[J o.b0,J o.b1,J o.b2,J o.b3,J o.b4] 34));have D1:=qh (XA.out.al (δ #[J o.b0,J o.b1,J o.b2,J o.b3,J o.b4] 34));have BK:Hid (W5.heap.size≤(W5.alloc (δ #[J o.b0,J o.b1,J o.b2,J o.b3,J o.b4] 34)).heap.size):=qh (az W5 _).size;obtain⟨W6,Dr⟩:=aB (W5.alloc (δ #[J o.b0,J o.b1,J o.b2,J o.b3,J o.b4] 34));obtain⟨b8,gb8⟩:=aB W5.heap.size;have Ij:=qh gb8;rw[Dr] at qL tm iF p9 D1 BK ⊢;rw[gb8] at qL tm BK ⊢;clear Dr gb8 l12 l13 l14 l15 l16;have cb0:=tm.out.cell (i:=0) rfl;have Z2:=tm.out.cell (i:=1) rfl;have cb2:=tm.out.cell (i:=2) rfl;have cb3:=tm.out.cell (i:=3) rfl;have cb4:=tm.out.cell (i:=4) rfl;have ca0:=D1.out.cell (i:=0) rfl;have ca1:=D1.out.cell (i:=1) rfl;have ca2:=D1.out.cell (i:=2) rfl;have qd:∀X:ο,(binOp .neq 32 (φ #[J o.b2,J o.b3,J o.b4]) (φ #[J o.s,J o.n,J 0])).run η X=.ok (Β (!decide ((o.b2,o.b3,o.b4)=(o.s,o.n,(0:Int))))) X:=MO _ _ _ _ _ _
  cases hq:decide ((o.b2,o.b3,o.b4)=(o.s,o.n,(0:Int))) with
  |true=>
   rw[hq] at qd;simp only[Bool.not_true] at qd;cases hb:bu (Vs.map vS) (jh o).1 with
   |true=>
    obtain⟨i9,v9,e9,-,-,-⟩:=ck (k:=fun v:VC=>v.1) (l:=Vs) ((cx Vs _).trans hb);rw[e9] at HV;clear e9;have HBe:Hid ((if (jh o).2=bh (bL o) 0 then jh o else lz (Vs.map vS) G (jh o))=jh o):=qh (if_pos (of_decide_eq_true hq))
    go_upto_region 14 with (first
     |(go_at_call 110
       refine(HV.out _ iF.out).mono ?_
       rintro e w7 ⟨rfl,nh⟩;have ye:=iF.out.bl nh;have hx7:=p9.out.bl nh;have ha7:=D1.out.bl nh;have hc7:=tm.out.bl nh;have DX:=Λ BK.out nh.size;have Li:=qL.out.trans (nh.mono BK.out);clear iF p9 D1 tm qL BK cb0 Z2 cb2 cb3 cb4 ca0 ca1 ca2;have iF:=qh ye;have p9:=qh hx7;have D1:=qh ha7;have tm:=qh hc7;have BK:=qh DX;have qL:=qh Li;clear nh ye hx7 ha7 hc7 DX Li))
    have ZN:=qh (HW5.out.bl (by rw[Ij.out];exact qL.out));have ki:=qh (aJ.of_below (g:=g) (ag kF.out (by rw[Ij.out];exact qL.out)));clear HV HCb HFb qd l6 oK HW5 kF XA qL BK;have x1:=p9.out.cell (i:=1) rfl;have x2:=p9.out.cell (i:=2) rfl;have XC:Hid (od (fun e:EC=>e.1) Es):=qh tT.out.fit.eup;have Zk:Hid (bu (Vs.map vS) (jh o).1=τ):=qh hb;have HP:Hid (gD (cO (cO (Vs.map vS) qa (bh (bL o) 0)) (jh o) (bh (bL o) 1),gH Es (bL o,Jaf,0),G)):=qh (tT.out.linked KM.out QF.out (by show ¬40≤Es.length;rw[VE.out];exact h2) HQa.out Zk.out);obtain⟨pl,gpl⟩:=aB (eO (cO (cO (Vs.map vS) qa (bh (bL o) 0)) (jh o) (bh (bL o) 1)) (gH Es (bL o,Jaf,0)));have Wy:=qh gpl;clear gpl
    go_upto_region 15 with (first
     |(go_at_call 116
       refine(wh iF.out o.s o.n (by omega) XC.out (gY.1 QF.out)).mono ?_
       rintro e w7 ⟨rfl,B7,k7,ye,xU⟩;have pT:=qh ye;have Kr:=qh (xU.box ZN.out iF.out.s);have MD:=qh (xU.box D1.out iF.out.s);have KE:=qh (xU.box tm.out iF.out.s);have PE:=qh (ki.out.trans xU);clear ye xU iF p9 ZN D1 tm ki x1 x2))
    obtain⟨i1,u1,e1,e2,e3,e4⟩:=ck (k:=fun v:VC=>v.1) (l:=Vs) ((cx Vs _).trans HQa.out);have PB:=qh e1;have WD:=qh e2;have Ut:Hid (u1.1=qa.1):=qh e3;clear e1 e2 e3 e4;have wa0:=Kr.out.cell (i:=0) rfl;have wa1:=Kr.out.cell (i:=1) rfl;have wa2:=Kr.out.cell (i:=2) rfl;have wa3:=Kr.out.cell (i:=3) rfl;have wa4:=Kr.out.cell (i:=4) rfl;have ar0:=MD.out.cell (i:=0) rfl;have ar1:=MD.out.cell (i:=1) rfl;have ar2:=MD.out.cell (i:=2) rfl
    go_upto_region 16 with (first
     |(go_at_call 117
       refine(sN pT.out (by omega) i1 u1 WD.out (by have:=BG.out u1 (ω WD.out);omega) qa (bh (bL o) 0) PB.out).mono ?_
       rintro e w8 ⟨rfl,A8,N8,c8,LL,yp⟩;have KA:=qh (pJ (v:=(u1.1,(A8,N8,c8,aM (ja u1.2.1.2.2.2 qa.2 (bh (bL o) 0))),u1.2.2)) (iB Vs▸tT.out.fit.vup.nodup) WD.out Ut.out rfl rfl rfl);have kj:=qh LL;have P5:=qh (yp.box MD.out pT.out.s);have tI:=qh (yp.box KE.out pT.out.s);have mc:=qh (PE.out.trans yp);clear LL yp pT Kr MD KE PE wa0 wa1 wa2 wa3 wa4 ar0 ar1 ar2))
    obtain⟨V1,fD⟩:=aB (Vs.set i1 (u1.1,(A8,N8,c8,aM (ja u1.2.1.2.2.2 qa.2 (bh (bL o) 0))),u1.2.2));rw[fD] at kj KA;clear fD
    have vW:(V1.map (·.1)).Nodup:=by
     rw[←iB,KA.out,iw];exact tT.out.fit.vup.nodup
    have oM:=qh vW;obtain⟨i2,u2,e1,e2,e3,e4⟩:=ck (k:=fun v:VC=>v.1) (l:=V1) ((cx V1 (jh o).1).trans ((by rw[KA.out];exact CN (iw _ _ _) _:bu (V1.map vS) (jh o).1=bu (Vs.map vS) (jh o).1).trans Zk.out));have oF:=qh e1;have VK:=qh e2;have V5:Hid (u2.1=(jh o).1):=qh e3;have T5:Hid (∀u∈V1,u.2.1.2.1≤81):=qh (rV kj.out KA.out (uq tT.out.short _ _));clear e1 e2 e3 e4 vW;have wb0:=tI.out.cell (i:=0) rfl;have wb1:=tI.out.cell (i:=1) rfl;have wb2:=tI.out.cell (i:=2) rfl;have wb3:=tI.out.cell (i:=3) rfl;have wb4:=tI.out.cell (i:=4) rfl;have as3:=P5.out.cell (i:=3) rfl;have as4:=P5.out.cell (i:=4) rfl;have as5:=P5.out.cell (i:=5) rfl
    go_upto_region 17 with (first
     |(go_at_call 117
       refine(sN kj.out (by omega) i2 u2 VK.out (by have:=T5.out u2 (ω VK.out);omega) (jh o) (bh (bL o) 1) oF.out).mono ?_
       rintro e w9 ⟨rfl,A9,N9,c9,iS,ff⟩;have NA:=qh ((pJ (v:=(u2.1,(A9,N9,c9,aM (ja u2.2.1.2.2.2 (jh o).2 (bh (bL o) 1))),u2.2.2)) oM.out VK.out V5.out rfl rfl rfl).trans (by rw[KA.out]));have fe:=qh iS;have km:=qh (mc.out.trans ff);clear iS ff kj P5 tI mc wb0 wb1 wb2 wb3 wb4 as3 as4 as5))
    obtain⟨V2,yV⟩:=aB (V1.set i2 (u2.1,(A9,N9,c9,aM (ja u2.2.1.2.2.2 (jh o).2 (bh (bL o) 1))),u2.2.2));rw[yV] at fe NA;clear yV
    have HPn:Hid (∀X,bz X A n c V2 B7 (m+1) k7 (kq (fun v:EC=>v.1) Es ((o.s,o.n),Jaf,0))→Ζ η 118 #[φ #[γ A n c,γ B7 (m+1) k7]] X fun e w'=>e=.returned (Β pl)∧σ X.heap.size X w'):=qh (fun X hX=>by
     have:=zr (A:=A) (n:=n) (c:=c) (B:=B7) (m:=m+1) (k:=k7) (HP.out.formed NA.out) (HP.out.good NA.out) X hX
     have e:(eM V2 (gH Es (bL o,Jaf,0))==0)=pl:=by rw[←wL,NA.out];exact Wy.out
     rw[e] at this;exact this)
    have s0:=fe.out.s.cell (i:=0) rfl;have s1:=fe.out.s.cell (i:=1) rfl
    have HR:Hid (fO eO (Vs.map vS,Es,G) (bL o) (uC o) (jh o)=if pl=τ then((cO (cO (Vs.map vS) qa (bh (bL o) 0)) (jh o) (bh (bL o) 1),gH Es (bL o,Jaf,0),G),0) else(dv,15)):=qh (by
     unfold fO;rw[if_neg (by rw[QF.out];decide),if_neg (by rw[VE.out];exact h2),if_neg (by rw[ha,hb];decide)]
     show(if eO (cO (cO (Vs.map vS) (lz (Vs.map vS) G (uC o)) (bh (bL o) 0)) (if (jh o).2=bh (bL o) 0 then jh o else lz (Vs.map vS) G (jh o)) (bh (bL o) 1)) (gH Es (bL o,Jaf,0))=τ then((cO (cO (Vs.map vS) (lz (Vs.map vS) G (uC o)) (bh (bL o) 0)) (if (jh o).2=bh (bL o) 0 then jh o else lz (Vs.map vS) G (jh o)) (bh (bL o) 1),gH Es (bL o,Jaf,0),G),0) else(dv,15))=_
     rw[HBe.out,←HQe.out,Wy.out])
    cases pl with
    |true=>
     have lR:=qh (HR.out.trans (if_pos rfl));clear HR
     go_wp2_with (first
      |(go_at_call 118
        refine(HPn.out _ fe.out.dg).mono ?_
        rintro e wa ⟨rfl,tS⟩;have Rx:=qh (fe.out.bl tS);have KY:=qh (km.out.trans (aJ.of_below tS));clear tS fe km s0 s1))
     go_ret;exact cG.yes lR.out rfl KY.out Rx.out (by rw[NA.out];rfl)
    |false=>
     have lR:=qh (HR.out.trans (if_neg (by decide)));clear HR
     go_wp2_with (first
      |(go_at_call 118
        refine(HPn.out _ fe.out.dg).mono ?_
        rintro e wa ⟨rfl,tS⟩;have Rx:=qh (fe.out.bl tS);have KY:=qh (km.out.trans (aJ.of_below tS));clear tS fe km s0 s1))
     go_ret;exact cG.no lR.out (by decide) rfl Rx.out.below KY.out
   |false=>
    have e9:=dH (k:=fun v:VC=>v.1) (l:=Vs) ((cx Vs _).trans hb);rw[e9] at HV;clear e9;obtain rfl:eb=13:=HFb.out.2 hb
    go_upto_region 11 with (first
     |(go_at_call 110
       refine(HV.out _ iF.out).mono ?_
       rintro e w7 ⟨rfl,nh⟩;have ye:=iF.out.bl nh;have hx7:=p9.out.bl nh;have ha7:=D1.out.bl nh;have hc7:=tm.out.bl nh;have DX:=Λ BK.out nh.size;have Li:=qL.out.trans (nh.mono BK.out);clear iF p9 D1 tm qL BK cb0 Z2 cb2 cb3 cb4 ca0 ca1 ca2;have iF:=qh ye;have p9:=qh hx7;have D1:=qh ha7;have tm:=qh hc7;have BK:=qh DX;have qL:=qh Li;clear nh ye hx7 ha7 hc7 DX Li))
    obtain⟨W6,Dr⟩:=aB w7;rw[Dr] at iF p9 D1 tm qL BK ⊢;clear Dr qd
    have jB:Hid (∀y,Ext W6.drew y→y.cell? ⟨g,0,ε⟩=ζ (γ A n c)∧y.cell? ⟨g,1,ε⟩=ζ (γ B m k)∧y.cell? ⟨g,2,ε⟩=ζ (γ C r rc)∧y.cell? ⟨b0,12,ε⟩=ζ (J o.b0)∧y.cell? ⟨b0,13,ε⟩=ζ (J o.b1)∧y.cell? ⟨b0,14,ε⟩=ζ (J o.b2)∧y.cell? ⟨b0,15,ε⟩=ζ (J o.b3)∧y.cell? ⟨b0,16,ε⟩=ζ (J o.b4)):=qh (fun y hy=>
     ⟨(iF.out.dr.bl hy).s.cell (i:=0) rfl,(iF.out.dr.bl hy).s.cell (i:=1) rfl,(iF.out.dr.bl hy).s.cell (i:=2) rfl,(p9.out.dr.bl hy).cell (i:=12) rfl,(p9.out.dr.bl hy).cell (i:=13) rfl,(p9.out.dr.bl hy).cell (i:=14) rfl,(p9.out.dr.bl hy).cell (i:=15) rfl,(p9.out.dr.bl hy).cell (i:=16) rfl⟩)
    refine cJ 9 8 (cw b8) (tc [fun v W=>v=υ (ζ ⟨g,0,ε⟩),fun v W=>v=υ (ζ ⟨g,0,ε⟩),fun v W=>v=φ #[γ A n c,γ B m k,γ C r rc],fun v W=>v=υ (ζ ⟨b0,12,ε⟩),fun v W=>v=φ #[J o.b0,J o.b1,J o.b2,J o.b3,J o.b4],fun v W=>v=Ξ #[φ #[J qb.1.1,J qb.1.2,J qb.2.1,J qb.2.2.1,J qb.2.2.2],J 13],fun v W=>v=Ξ #[φ #[J qb.1.1,J qb.1.2,J qb.2.1,J qb.2.2.1,J qb.2.2.2],J 13],fun v W=>v=φ #[J qb.1.1,J qb.1.2,J qb.2.1,J qb.2.2.1,J qb.2.2.2],fun v W=>v=J 13]) (Ext W6.drew) (by kernel_rfl) (by kernel_rfl) (by kernel_rfl) (by kernel_rfl) (by kernel_rfl) (by kernel_rfl) (by simp only[Jaj,Jag,Jah];exact rfl) (by kernel_rfl) (by kernel_rfl) (by kernel_rfl) ?_ (jH (by
     intro Q hQ v w1 w2 h hx;simp only[Η,Jbh,or_false] at hQ;rcases hQ with rfl|rfl|rfl|rfl|rfl|rfl|rfl|rfl|rfl
     ·exact(fun v w1 w2 h hx=>h) v w1 w2 h hx
     ·exact(fun v w1 w2 h hx=>h) v w1 w2 h hx
     ·exact(fun v w1 w2 h hx=>h) v w1 w2 h hx
     ·exact(fun v w1 w2 h hx=>h) v w1 w2 h hx
     ·exact(fun v w1 w2 h hx=>h) v w1 w2 h hx
     ·exact(fun v w1 w2 h hx=>h) v w1 w2 h hx
     ·exact(fun v w1 w2 h hx=>h) v w1 w2 h hx
     ·exact(fun v w1 w2 h hx=>h) v w1 w2 h hx
     ·exact(fun v w1 w2 h hx=>h) v w1 w2 h hx)) (fun _ _ h k=>h.trans k) (Ext.refl _) ?_ ?_ ?_
    ·exact fun _ _ _ _ h=>h
    ·intro i Ef;have dF:i=0∨i=1∨i=2∨i=3∨i=4∨i=5∨i=6∨i=7∨i=8:=by omega
     rcases dF with rfl|rfl|rfl|rfl|rfl|rfl|rfl|rfl|rfl
     ·refine aH ?_;intro xf y hg aD;simp only[aE,ι,π,aj,ξ,aw,ar,aq];refine .inl ⟨by rfl,?_⟩;go_simp;exact⟨Ext.refl _,rfl⟩
     ·refine aH ?_;intro xf y hg aD;have d0:xf 0=υ (ζ ⟨g,0,ε⟩):=aD 0 (by decide);simp only[aE,ι,π,aj,ξ,aw,ar,aq];simp only[d0];refine .inl ⟨by rfl,?_⟩;go_simp;exact⟨Ext.refl _,rfl⟩
     ·refine aH ?_;intro xf y hg aD;have d1:xf 1=υ (ζ ⟨g,0,ε⟩):=aD 1 (by decide);obtain⟨qE,iQ,jd,qi,Lh,Uq,DZ,DX⟩:=jB.out _ hg;simp only[aE,ι,π,aj,ξ,aw,ar,aq];simp only[d1];refine .inl ⟨by rfl,?_⟩;go_simp;exact⟨Ext.refl _,rfl⟩
     ·refine aH ?_;intro xf y hg aD;simp only[aE,ι,π,aj,ξ,aw,ar,aq];refine .inl ⟨by rfl,?_⟩;go_simp;exact⟨Ext.refl _,rfl⟩
     ·refine aH ?_;intro xf y hg aD;have d3:xf 3=υ (ζ ⟨b0,12,ε⟩):=aD 3 (by decide);obtain⟨qE,iQ,jd,qi,Lh,Uq,DZ,DX⟩:=jB.out _ hg;simp only[aE,ι,π,aj,ξ,aw,ar,aq];simp only[d3];refine .inl ⟨by rfl,?_⟩;go_simp;exact⟨Ext.refl _,rfl⟩
     ·refine aH ?_;intro xf y hg aD;have d2:xf 2=φ #[γ A n c,γ B m k,γ C r rc]:=aD 2 (by decide);have d4:xf 4=φ #[J o.b0,J o.b1,J o.b2,J o.b3,J o.b4]:=aD 4 (by decide);simp only[aE,ι,π,aj,ξ,aw,ar,aq];simp only[d2,d4];refine .inl ⟨by rfl,cu (by go_simp;first|done|exact⟨rfl,rfl⟩|with_reducible rfl) ?_⟩
      refine(HCb.out y (iF.out.dr.bl hg)).mono ?_
      rintro e w2 ⟨rfl,hb⟩
      refine⟨_,rfl,hb,?_⟩
      show(_:ψ)=Ξ #[φ #[J qb.1.1,J qb.1.2,J qb.2.1,J qb.2.2.1,J qb.2.2.2],J 13]
      exact rfl
     ·refine aH ?_;intro xf y hg aD;have d5:xf 5=Ξ #[φ #[J qb.1.1,J qb.1.2,J qb.2.1,J qb.2.2.1,J qb.2.2.2],J 13]:=aD 5 (by decide);simp only[aE,ι,π,aj,ξ,aw,ar,aq];simp only[d5];refine .inl ⟨by rfl,?_⟩;go_simp;exact⟨Ext.refl _,rfl⟩
     ·refine aH ?_;intro xf y hg aD;have d6:xf 6=Ξ #[φ #[J qb.1.1,J qb.1.2,J qb.2.1,J qb.2.2.1,J qb.2.2.2],J 13]:=aD 6 (by decide);simp only[aE,ι,π,aj,ξ,aw,ar,aq];simp only[d6];refine .inl ⟨by rfl,?_⟩;go_simp;exact⟨Ext.refl _,rfl⟩
     ·refine aH ?_;intro xf y hg aD;have d6:xf 6=Ξ #[φ #[J qb.1.1,J qb.1.2,J qb.2.1,J qb.2.2.1,J qb.2.2.2],J 13]:=aD 6 (by decide);simp only[aE,ι,π,aj,ξ,aw,ar,aq];simp only[d6];refine .inl ⟨by rfl,?_⟩;go_simp;exact⟨Ext.refl _,rfl⟩
    ·intro xf y hg aX;have d6:xf 6=Ξ #[φ #[J qb.1.1,J qb.1.2,J qb.2.1,J qb.2.2.1,J qb.2.2.2],J 13]:=aX 6 (by decide) (by decide);simp only[aE,ι,π,aj,ξ,aw,ar,aq];simp only[d6]
     refine⟨J 13,?_,rfl⟩
     apply dD;rfl;intro w' aC;go_simp;(try with_reducible rfl)
    intro xf y hg aX;have d7:xf 7=φ #[J qb.1.1,J qb.1.2,J qb.2.1,J qb.2.2.1,J qb.2.2.2]:=aX 7 (by decide);have d8:xf 8=J 13:=aX 8 (by decide);simp only[aE,ι,π,aj,ξ,aw,ar,aq];simp only[d7,d8];clear aX d7 d8;refine gI 9 ?_;intro w' aC
    refine⟨w'.setRow b8 #[J qb.1.1,J qb.1.2,J qb.2.1,J qb.2.2.1,J qb.2.2.2],aR 34 (.tmp 8) (.tmp 57) rfl b8 rfl [J qb.1.1,J qb.1.2,J qb.2.1,J qb.2.2.1,J qb.2.2.2] rfl 34 [J o.b0,J o.b1,J o.b2,J o.b3,J o.b4] ((tm.out.dr.bl hg).bl aC) (by kernel_rfl) rfl (by simp[Τ]),bN (show b8≤b8 from Δ _) _,?_⟩
    have Tq:=qh (Whole.row ((tm.out.dr.bl hg).bl aC) [J qb.1.1,J qb.1.2,J qb.2.1,J qb.2.2.1,J qb.2.2.2]);have kn:=qh (bH (qL.out.trans ((((Θ b8 W6).drew).trans (hg.mono BK.out)).trans (aC.mono (Λ BK.out hg.size)))) (Δ _) #[J qb.1.1,J qb.1.2,J qb.2.1,J qb.2.2.1,J qb.2.2.2]);obtain⟨Vz,Tz⟩:=aB (w'.setRow b8 #[J qb.1.1,J qb.1.2,J qb.2.1,J qb.2.2.1,J qb.2.2.2]);rw[Tz] at Tq kn ⊢;clear aC Tz;refine aa 10 ?_;refine aF (by kernel_rfl) ?_ _;intro w7 BH;have KE:=qh (Tq.out.bl BH);have tM:=qh (kn.out.trans (BH.mono (by rw[←Ij.out];exact kn.out.size)));have pT:=qh (l6.out.bl (by rw[Ij.out];exact tM.out))
    have HR:Hid (fO eO (Vs.map vS,Es,G) (bL o) (uC o) (jh o)=(dv,13)):=qh (by
     unfold fO;rw[if_neg (by rw[QF.out];decide),if_neg (by rw[VE.out];exact h2),if_pos (.inr hb)])
    go_wp2;go_ret;exact cG.no HR.out (by decide) rfl pT.out.below (aJ.of_below (ag kF.out (by rw[Ij.out];exact tM.out)))
  |false=>
   rw[hq] at qd;simp only[Bool.not_false] at qd;go_upto_region 11 with fail
   clear qd cb0 Z2 cb2 cb3 cb4 ca0 ca1 ca2;cases hb:bu (Vs.map vS) (jh o).1 with
   |true=>
    obtain⟨PM,rfl⟩:=HFb.out.1 hb;have HBe:Hid ((if (jh o).2=bh (bL o) 0 then jh o else lz (Vs.map vS) G (jh o))=qb):=qh ((if_neg (of_decide_eq_false hq)).trans PM.symm);have HBh:Hid (bu (Vs.map vS) qb.1=τ):=qh (by rw[PM];exact hb);clear PM
    have jB:Hid (∀y,Ext W6.drew y→y.cell? ⟨g,0,ε⟩=ζ (γ A n c)∧y.cell? ⟨g,1,ε⟩=ζ (γ B m k)∧y.cell? ⟨g,2,ε⟩=ζ (γ C r rc)∧y.cell? ⟨b0,12,ε⟩=ζ (J o.b0)∧y.cell? ⟨b0,13,ε⟩=ζ (J o.b1)∧y.cell? ⟨b0,14,ε⟩=ζ (J o.b2)∧y.cell? ⟨b0,15,ε⟩=ζ (J o.b3)∧y.cell? ⟨b0,16,ε⟩=ζ (J o.b4)):=qh (fun y hy=>
     ⟨(iF.out.dr.bl hy).s.cell (i:=0) rfl,(iF.out.dr.bl hy).s.cell (i:=1) rfl,(iF.out.dr.bl hy).s.cell (i:=2) rfl,(p9.out.dr.bl hy).cell (i:=12) rfl,(p9.out.dr.bl hy).cell (i:=13) rfl,(p9.out.dr.bl hy).cell (i:=14) rfl,(p9.out.dr.bl hy).cell (i:=15) rfl,(p9.out.dr.bl hy).cell (i:=16) rfl⟩)
    refine cJ 9 8 (cw b8) (tc [fun v W=>v=υ (ζ ⟨g,0,ε⟩),fun v W=>v=υ (ζ ⟨g,0,ε⟩),fun v W=>v=φ #[γ A n c,γ B m k,γ C r rc],fun v W=>v=υ (ζ ⟨b0,12,ε⟩),fun v W=>v=φ #[J o.b0,J o.b1,J o.b2,J o.b3,J o.b4],fun v W=>v=Ξ #[φ #[J qb.1.1,J qb.1.2,J qb.2.1,J qb.2.2.1,J qb.2.2.2],J 0],fun v W=>v=Ξ #[φ #[J qb.1.1,J qb.1.2,J qb.2.1,J qb.2.2.1,J qb.2.2.2],J 0],fun v W=>v=φ #[J qb.1.1,J qb.1.2,J qb.2.1,J qb.2.2.1,J qb.2.2.2],fun v W=>v=J 0]) (Ext W6.drew) (by kernel_rfl) (by kernel_rfl) (by kernel_rfl) (by kernel_rfl) (by kernel_rfl) (by kernel_rfl) (by simp only[Jaj,Jag,Jah];exact rfl) (by kernel_rfl) (by kernel_rfl) (by kernel_rfl) ?_ (jH (by
     intro Q hQ v w1 w2 h hx;simp only[Η,Jbh,or_false] at hQ;rcases hQ with rfl|rfl|rfl|rfl|rfl|rfl|rfl|rfl|rfl
     ·exact(fun v w1 w2 h hx=>h) v w1 w2 h hx
     ·exact(fun v w1 w2 h hx=>h) v w1 w2 h hx
     ·exact(fun v w1 w2 h hx=>h) v w1 w2 h hx
     ·exact(fun v w1 w2 h hx=>h) v w1 w2 h hx
     ·exact(fun v w1 w2 h hx=>h) v w1 w2 h hx
     ·exact(fun v w1 w2 h hx=>h) v w1 w2 h hx
     ·exact(fun v w1 w2 h hx=>h) v w1 w2 h hx
     ·exact(fun v w1 w2 h hx=>h) v w1 w2 h hx
     ·exact(fun v w1 w2 h hx=>h) v w1 w2 h hx)) (fun _ _ h k=>h.trans k) (Ext.refl _) ?_ ?_ ?_
    ·exact fun _ _ _ _ h=>h
    ·intro i Ef;have dF:i=0∨i=1∨i=2∨i=3∨i=4∨i=5∨i=6∨i=7∨i=8:=by omega
     rcases dF with rfl|rfl|rfl|rfl|rfl|rfl|rfl|rfl|rfl
     ·refine aH ?_;intro xf y hg aD;simp only[aE,ι,π,aj,ξ,aw,ar,aq];refine .inl ⟨by rfl,?_⟩;go_simp;exact⟨Ext.refl _,rfl⟩
     ·refine aH ?_;intro xf y hg aD;have d0:xf 0=υ (ζ ⟨g,0,ε⟩):=aD 0 (by decide);simp only[aE,ι,π,aj,ξ,aw,ar,aq];simp only[d0];refine .inl ⟨by rfl,?_⟩;go_simp;exact⟨Ext.refl _,rfl⟩
     ·refine aH ?_;intro xf y hg aD;have d1:xf 1=υ (ζ ⟨g,0,ε⟩):=aD 1 (by decide);obtain⟨qE,iQ,jd,qi,Lh,Uq,DZ,DX⟩:=jB.out _ hg;simp only[aE,ι,π,aj,ξ,aw,ar,aq];simp only[d1];refine .inl ⟨by rfl,?_⟩;go_simp;exact⟨Ext.refl _,rfl⟩
     ·refine aH ?_;intro xf y hg aD;simp only[aE,ι,π,aj,ξ,aw,ar,aq];refine .inl ⟨by rfl,?_⟩;go_simp;exact⟨Ext.refl _,rfl⟩
     ·refine aH ?_;intro xf y hg aD;have d3:xf 3=υ (ζ ⟨b0,12,ε⟩):=aD 3 (by decide);obtain⟨qE,iQ,jd,qi,Lh,Uq,DZ,DX⟩:=jB.out _ hg;simp only[aE,ι,π,aj,ξ,aw,ar,aq];simp only[d3];refine .inl ⟨by rfl,?_⟩;go_simp;exact⟨Ext.refl _,rfl⟩
     ·refine aH ?_;intro xf y hg aD;have d2:xf 2=φ #[γ A n c,γ B m k,γ C r rc]:=aD 2 (by decide);have d4:xf 4=φ #[J o.b0,J o.b1,J o.b2,J o.b3,J o.b4]:=aD 4 (by decide);simp only[aE,ι,π,aj,ξ,aw,ar,aq];simp only[d2,d4];refine .inl ⟨by rfl,cu (by go_simp;first|done|exact⟨rfl,rfl⟩|with_reducible rfl) ?_⟩
      refine(HCb.out y (iF.out.dr.bl hg)).mono ?_
      rintro e w2 ⟨rfl,hb⟩
      refine⟨_,rfl,hb,?_⟩
      show(_:ψ)=Ξ #[φ #[J qb.1.1,J qb.1.2,J qb.2.1,J qb.2.2.1,J qb.2.2.2],J 0]
      exact rfl
     ·refine aH ?_;intro xf y hg aD;have d5:xf 5=Ξ #[φ #[J qb.1.1,J qb.1.2,J qb.2.1,J qb.2.2.1,J qb.2.2.2],J 0]:=aD 5 (by decide);simp only[aE,ι,π,aj,ξ,aw,ar,aq];simp only[d5];refine .inl ⟨by rfl,?_⟩;go_simp;exact⟨Ext.refl _,rfl⟩
     ·refine aH ?_;intro xf y hg aD;have d6:xf 6=Ξ #[φ #[J qb.1.1,J qb.1.2,J qb.2.1,J qb.2.2.1,J qb.2.2.2],J 0]:=aD 6 (by decide);simp only[aE,ι,π,aj,ξ,aw,ar,aq];simp only[d6];refine .inl ⟨by rfl,?_⟩;go_simp;exact⟨Ext.refl _,rfl⟩
     ·refine aH ?_;intro xf y hg aD;have d6:xf 6=Ξ #[φ #[J qb.1.1,J qb.1.2,J qb.2.1,J qb.2.2.1,J qb.2.2.2],J 0]:=aD 6 (by decide);simp only[aE,ι,π,aj,ξ,aw,ar,aq];simp only[d6];refine .inl ⟨by rfl,?_⟩;go_simp;exact⟨Ext.refl _,rfl⟩
    ·intro xf y hg aX;have d6:xf 6=Ξ #[φ #[J qb.1.1,J qb.1.2,J qb.2.1,J qb.2.2.1,J qb.2.2.2],J 0]:=aX 6 (by decide) (by decide);simp only[aE,ι,π,aj,ξ,aw,ar,aq];simp only[d6]
     refine⟨J 0,?_,rfl⟩
     apply dD;rfl;intro w' aC;go_simp;(try with_reducible rfl)
    intro xf y hg aX;have d7:xf 7=φ #[J qb.1.1,J qb.1.2,J qb.2.1,J qb.2.2.1,J qb.2.2.2]:=aX 7 (by decide);have d8:xf 8=J 0:=aX 8 (by decide);simp only[aE,ι,π,aj,ξ,aw,ar,aq];simp only[d7,d8];clear aX d7 d8;refine gI 9 ?_;intro w' aC
    refine⟨w'.setRow b8 #[J qb.1.1,J qb.1.2,J qb.2.1,J qb.2.2.1,J qb.2.2.2],aR 34 (.tmp 8) (.tmp 57) rfl b8 rfl [J qb.1.1,J qb.1.2,J qb.2.1,J qb.2.2.1,J qb.2.2.2] rfl 34 [J o.b0,J o.b1,J o.b2,J o.b3,J o.b4] ((tm.out.dr.bl hg).bl aC) (by kernel_rfl) rfl (by simp[Τ]),bN (show b8≤b8 from Δ _) _,?_⟩
    have Tq:=qh (Whole.row ((tm.out.dr.bl hg).bl aC) [J qb.1.1,J qb.1.2,J qb.2.1,J qb.2.2.1,J qb.2.2.2]);have kn:=qh (bH (qL.out.trans ((((Θ b8 W6).drew).trans (hg.mono BK.out)).trans (aC.mono (Λ BK.out hg.size)))) (Δ _) #[J qb.1.1,J qb.1.2,J qb.2.1,J qb.2.2.1,J qb.2.2.2]);obtain⟨Vz,Tz⟩:=aB (w'.setRow b8 #[J qb.1.1,J qb.1.2,J qb.2.1,J qb.2.2.1,J qb.2.2.2]);rw[Tz] at Tq kn ⊢;clear aC Tz;refine aa 10 ?_;refine aF (by kernel_rfl) ?_ _;intro w7 BH;have KE:=qh (Tq.out.bl BH);have tM:=qh (kn.out.trans (BH.mono (by rw[←Ij.out];exact kn.out.size)));go_upto_region 14 with fail
    have iF:=qh (l6.out.bl (by rw[Ij.out];exact tM.out));have p9:=qh (oK.out.bl (by rw[Ij.out];exact tM.out));have D1:=qh (XA.out.bl (by rw[Ij.out];exact tM.out));have ZN:=qh (HW5.out.bl (by rw[Ij.out];exact tM.out));have tm:=KE;have ki:=qh (aJ.of_below (g:=g) (ag kF.out (by rw[Ij.out];exact tM.out)));clear HV HCb HFb l6 oK HW5 kF XA tM KE;have x1:=p9.out.cell (i:=1) rfl;have x2:=p9.out.cell (i:=2) rfl;have XC:Hid (od (fun e:EC=>e.1) Es):=qh tT.out.fit.eup;have Zk:Hid (bu (Vs.map vS) (qb).1=τ):=qh HBh.out;have HP:Hid (gD (cO (cO (Vs.map vS) qa (bh (bL o) 0)) (qb) (bh (bL o) 1),gH Es (bL o,Jaf,0),G)):=qh (tT.out.linked KM.out QF.out (by show ¬40≤Es.length;rw[VE.out];exact h2) HQa.out Zk.out);obtain⟨pl,gpl⟩:=aB (eO (cO (cO (Vs.map vS) qa (bh (bL o) 0)) (qb) (bh (bL o) 1)) (gH Es (bL o,Jaf,0)));have Wy:=qh gpl;clear gpl
    go_upto_region 15 with (first
     |(go_at_call 116
       refine(wh iF.out o.s o.n (by omega) XC.out (gY.1 QF.out)).mono ?_
       rintro e w7 ⟨rfl,B7,k7,ye,xU⟩;have pT:=qh ye;have Kr:=qh (xU.box ZN.out iF.out.s);have MD:=qh (xU.box D1.out iF.out.s);have KE:=qh (xU.box tm.out iF.out.s);have PE:=qh (ki.out.trans xU);clear ye xU iF p9 ZN D1 tm ki x1 x2))
    obtain⟨i1,u1,e1,e2,e3,e4⟩:=ck (k:=fun v:VC=>v.1) (l:=Vs) ((cx Vs _).trans HQa.out);have PB:=qh e1;have WD:=qh e2;have Ut:Hid (u1.1=qa.1):=qh e3;clear e1 e2 e3 e4;have wa0:=Kr.out.cell (i:=0) rfl;have wa1:=Kr.out.cell (i:=1) rfl;have wa2:=Kr.out.cell (i:=2) rfl;have wa3:=Kr.out.cell (i:=3) rfl;have wa4:=Kr.out.cell (i:=4) rfl;have ar0:=MD.out.cell (i:=0) rfl;have ar1:=MD.out.cell (i:=1) rfl;have ar2:=MD.out.cell (i:=2) rfl
    go_upto_region 16 with (first
     |(go_at_call 117
       refine(sN pT.out (by omega) i1 u1 WD.out (by have:=BG.out u1 (ω WD.out);omega) qa (bh (bL o) 0) PB.out).mono ?_
       rintro e w8 ⟨rfl,A8,N8,c8,LL,yp⟩;have KA:=qh (pJ (v:=(u1.1,(A8,N8,c8,aM (ja u1.2.1.2.2.2 qa.2 (bh (bL o) 0))),u1.2.2)) (iB Vs▸tT.out.fit.vup.nodup) WD.out Ut.out rfl rfl rfl);have kj:=qh LL;have P5:=qh (yp.box MD.out pT.out.s);have tI:=qh (yp.box KE.out pT.out.s);have mc:=qh (PE.out.trans yp);clear LL yp pT Kr MD KE PE wa0 wa1 wa2 wa3 wa4 ar0 ar1 ar2))
    obtain⟨V1,fD⟩:=aB (Vs.set i1 (u1.1,(A8,N8,c8,aM (ja u1.2.1.2.2.2 qa.2 (bh (bL o) 0))),u1.2.2));rw[fD] at kj KA;clear fD
    have vW:(V1.map (·.1)).Nodup:=by
     rw[←iB,KA.out,iw];exact tT.out.fit.vup.nodup
    have oM:=qh vW;obtain⟨i2,u2,e1,e2,e3,e4⟩:=ck (k:=fun v:VC=>v.1) (l:=V1) ((cx V1 (qb).1).trans ((by rw[KA.out];exact CN (iw _ _ _) _:bu (V1.map vS) (qb).1=bu (Vs.map vS) (qb).1).trans Zk.out));have oF:=qh e1;have VK:=qh e2;have V5:Hid (u2.1=(qb).1):=qh e3;have T5:Hid (∀u∈V1,u.2.1.2.1≤81):=qh (rV kj.out KA.out (uq tT.out.short _ _));clear e1 e2 e3 e4 vW;have wb0:=tI.out.cell (i:=0) rfl;have wb1:=tI.out.cell (i:=1) rfl;have wb2:=tI.out.cell (i:=2) rfl;have wb3:=tI.out.cell (i:=3) rfl;have wb4:=tI.out.cell (i:=4) rfl;have as3:=P5.out.cell (i:=3) rfl;have as4:=P5.out.cell (i:=4) rfl;have as5:=P5.out.cell (i:=5) rfl
    go_upto_region 17 with (first
     |(go_at_call 117
       refine(sN kj.out (by omega) i2 u2 VK.out (by have:=T5.out u2 (ω VK.out);omega) (qb) (bh (bL o) 1) oF.out).mono ?_
       rintro e w9 ⟨rfl,A9,N9,c9,iS,ff⟩;have NA:=qh ((pJ (v:=(u2.1,(A9,N9,c9,aM (ja u2.2.1.2.2.2 (qb).2 (bh (bL o) 1))),u2.2.2)) oM.out VK.out V5.out rfl rfl rfl).trans (by rw[KA.out]));have fe:=qh iS;have km:=qh (mc.out.trans ff);clear iS ff kj P5 tI mc wb0 wb1 wb2 wb3 wb4 as3 as4 as5))
    obtain⟨V2,yV⟩:=aB (V1.set i2 (u2.1,(A9,N9,c9,aM (ja u2.2.1.2.2.2 (qb).2 (bh (bL o) 1))),u2.2.2));rw[yV] at fe NA;clear yV
    have HPn:Hid (∀X,bz X A n c V2 B7 (m+1) k7 (kq (fun v:EC=>v.1) Es ((o.s,o.n),Jaf,0))→Ζ η 118 #[φ #[γ A n c,γ B7 (m+1) k7]] X fun e w'=>e=.returned (Β pl)∧σ X.heap.size X w'):=qh (fun X hX=>by
     have:=zr (A:=A) (n:=n) (c:=c) (B:=B7) (m:=m+1) (k:=k7) (HP.out.formed NA.out) (HP.out.good NA.out) X hX
     have e:(eM V2 (gH Es (bL o,Jaf,0))==0)=pl:=by rw[←wL,NA.out];exact Wy.out
     rw[e] at this;exact this)
    have s0:=fe.out.s.cell (i:=0) rfl;have s1:=fe.out.s.cell (i:=1) rfl
    have HR:Hid (fO eO (Vs.map vS,Es,G) (bL o) (uC o) (jh o)=if pl=τ then((cO (cO (Vs.map vS) qa (bh (bL o) 0)) (qb) (bh (bL o) 1),gH Es (bL o,Jaf,0),G),0) else(dv,15)):=qh (by
     unfold fO;rw[if_neg (by rw[QF.out];decide),if_neg (by rw[VE.out];exact h2),if_neg (by rw[ha,hb];decide)]
     show(if eO (cO (cO (Vs.map vS) (lz (Vs.map vS) G (uC o)) (bh (bL o) 0)) (if (jh o).2=bh (bL o) 0 then jh o else lz (Vs.map vS) G (jh o)) (bh (bL o) 1)) (gH Es (bL o,Jaf,0))=τ then((cO (cO (Vs.map vS) (lz (Vs.map vS) G (uC o)) (bh (bL o) 0)) (if (jh o).2=bh (bL o) 0 then jh o else lz (Vs.map vS) G (jh o)) (bh (bL o) 1),gH Es (bL o,Jaf,0),G),0) else(dv,15))=_
     rw[HBe.out,←HQe.out,Wy.out])
    cases pl with
    |true=>
     have lR:=qh (HR.out.trans (if_pos rfl));clear HR
     go_wp2_with (first
      |(go_at_call 118
        refine(HPn.out _ fe.out.dg).mono ?_
        rintro e wa ⟨rfl,tS⟩;have Rx:=qh (fe.out.bl tS);have KY:=qh (km.out.trans (aJ.of_below tS));clear tS fe km s0 s1))
     go_ret;exact cG.yes lR.out rfl KY.out Rx.out (by rw[NA.out];rfl)
    |false=>
     have lR:=qh (HR.out.trans (if_neg (by decide)));clear HR
     go_wp2_with (first
      |(go_at_call 118
        refine(HPn.out _ fe.out.dg).mono ?_
        rintro e wa ⟨rfl,tS⟩;have Rx:=qh (fe.out.bl tS);have KY:=qh (km.out.trans (aJ.of_below tS));clear tS fe km s0 s1))
     go_ret;exact cG.no lR.out (by decide) rfl Rx.out.below KY.out
   |false=>
    obtain rfl:eb=13:=HFb.out.2 hb
    have jB:Hid (∀y,Ext W6.drew y→y.cell? ⟨g,0,ε⟩=ζ (γ A n c)∧y.cell? ⟨g,1,ε⟩=ζ (γ B m k)∧y.cell? ⟨g,2,ε⟩=ζ (γ C r rc)∧y.cell? ⟨b0,12,ε⟩=ζ (J o.b0)∧y.cell? ⟨b0,13,ε⟩=ζ (J o.b1)∧y.cell? ⟨b0,14,ε⟩=ζ (J o.b2)∧y.cell? ⟨b0,15,ε⟩=ζ (J o.b3)∧y.cell? ⟨b0,16,ε⟩=ζ (J o.b4)):=qh (fun y hy=>
     ⟨(iF.out.dr.bl hy).s.cell (i:=0) rfl,(iF.out.dr.bl hy).s.cell (i:=1) rfl,(iF.out.dr.bl hy).s.cell (i:=2) rfl,(p9.out.dr.bl hy).cell (i:=12) rfl,(p9.out.dr.bl hy).cell (i:=13) rfl,(p9.out.dr.bl hy).cell (i:=14) rfl,(p9.out.dr.bl hy).cell (i:=15) rfl,(p9.out.dr.bl hy).cell (i:=16) rfl⟩)
    refine cJ 9 8 (cw b8) (tc [fun v W=>v=υ (ζ ⟨g,0,ε⟩),fun v W=>v=υ (ζ ⟨g,0,ε⟩),fun v W=>v=φ #[γ A n c,γ B m k,γ C r rc],fun v W=>v=υ (ζ ⟨b0,12,ε⟩),fun v W=>v=φ #[J o.b0,J o.b1,J o.b2,J o.b3,J o.b4],fun v W=>v=Ξ #[φ #[J qb.1.1,J qb.1.2,J qb.2.1,J qb.2.2.1,J qb.2.2.2],J 13],fun v W=>v=Ξ #[φ #[J qb.1.1,J qb.1.2,J qb.2.1,J qb.2.2.1,J qb.2.2.2],J 13],fun v W=>v=φ #[J qb.1.1,J qb.1.2,J qb.2.1,J qb.2.2.1,J qb.2.2.2],fun v W=>v=J 13]) (Ext W6.drew) (by kernel_rfl) (by kernel_rfl) (by kernel_rfl) (by kernel_rfl) (by kernel_rfl) (by kernel_rfl) (by simp only[Jaj,Jag,Jah];exact rfl) (by kernel_rfl) (by kernel_rfl) (by kernel_rfl) ?_ (jH (by
     intro Q hQ v w1 w2 h hx;simp only[Η,Jbh,or_false] at hQ;rcases hQ with rfl|rfl|rfl|rfl|rfl|rfl|rfl|rfl|rfl
     ·exact(fun v w1 w2 h hx=>h) v w1 w2 h hx
     ·exact(fun v w1 w2 h hx=>h) v w1 w2 h hx
     ·exact(fun v w1 w2 h hx=>h) v w1 w2 h hx
     ·exact(fun v w1 w2 h hx=>h) v w1 w2 h hx
     ·exact(fun v w1 w2 h hx=>h) v w1 w2 h hx
     ·exact(fun v w1 w2 h hx=>h) v w1 w2 h hx
     ·exact(fun v w1 w2 h hx=>h) v w1 w2 h hx
     ·exact(fun v w1 w2 h hx=>h) v w1 w2 h hx
     ·exact(fun v w1 w2 h hx=>h) v w1 w2 h hx)) (fun _ _ h k=>h.trans k) (Ext.refl _) ?_ ?_ ?_
    ·exact fun _ _ _ _ h=>h
    ·intro i Ef;have dF:i=0∨i=1∨i=2∨i=3∨i=4∨i=5∨i=6∨i=7∨i=8:=by omega
     rcases dF with rfl|rfl|rfl|rfl|rfl|rfl|rfl|rfl|rfl
     ·refine aH ?_;intro xf y hg aD;simp only[aE,ι,π,aj,ξ,aw,ar,aq];refine .inl ⟨by rfl,?_⟩;go_simp;exact⟨Ext.refl _,rfl⟩
     ·refine aH ?_;intro xf y hg aD;have d0:xf 0=υ (ζ ⟨g,0,ε⟩):=aD 0 (by decide);simp only[aE,ι,π,aj,ξ,aw,ar,aq];simp only[d0];refine .inl ⟨by rfl,?_⟩;go_simp;exact⟨Ext.refl _,rfl⟩
     ·refine aH ?_;intro xf y hg aD;have d1:xf 1=υ (ζ ⟨g,0,ε⟩):=aD 1 (by decide);obtain⟨qE,iQ,jd,qi,Lh,Uq,DZ,DX⟩:=jB.out _ hg;simp only[aE,ι,π,aj,ξ,aw,ar,aq];simp only[d1];refine .inl ⟨by rfl,?_⟩;go_simp;exact⟨Ext.refl _,rfl⟩
     ·refine aH ?_;intro xf y hg aD;simp only[aE,ι,π,aj,ξ,aw,ar,aq];refine .inl ⟨by rfl,?_⟩;go_simp;exact⟨Ext.refl _,rfl⟩
     ·refine aH ?_;intro xf y hg aD;have d3:xf 3=υ (ζ ⟨b0,12,ε⟩):=aD 3 (by decide);obtain⟨qE,iQ,jd,qi,Lh,Uq,DZ,DX⟩:=jB.out _ hg;simp only[aE,ι,π,aj,ξ,aw,ar,aq];simp only[d3];refine .inl ⟨by rfl,?_⟩;go_simp;exact⟨Ext.refl _,rfl⟩
     ·refine aH ?_;intro xf y hg aD;have d2:xf 2=φ #[γ A n c,γ B m k,γ C r rc]:=aD 2 (by decide);have d4:xf 4=φ #[J o.b0,J o.b1,J o.b2,J o.b3,J o.b4]:=aD 4 (by decide);simp only[aE,ι,π,aj,ξ,aw,ar,aq];simp only[d2,d4];refine .inl ⟨by rfl,cu (by go_simp;first|done|exact⟨rfl,rfl⟩|with_reducible rfl) ?_⟩
      refine(HCb.out y (iF.out.dr.bl hg)).mono ?_
      rintro e w2 ⟨rfl,hb⟩
      refine⟨_,rfl,hb,?_⟩
      show(_:ψ)=Ξ #[φ #[J qb.1.1,J qb.1.2,J qb.2.1,J qb.2.2.1,J qb.2.2.2],J 13]
      exact rfl
     ·refine aH ?_;intro xf y hg aD;have d5:xf 5=Ξ #[φ #[J qb.1.1,J qb.1.2,J qb.2.1,J qb.2.2.1,J qb.2.2.2],J 13]:=aD 5 (by decide);simp only[aE,ι,π,aj,ξ,aw,ar,aq];simp only[d5];refine .inl ⟨by rfl,?_⟩;go_simp;exact⟨Ext.refl _,rfl⟩
     ·refine aH ?_;intro xf y hg aD;have d6:xf 6=Ξ #[φ #[J qb.1.1,J qb.1.2,J qb.2.1,J qb.2.2.1,J qb.2.2.2],J 13]:=aD 6 (by decide);simp only[aE,ι,π,aj,ξ,aw,ar,aq];simp only[d6];refine .inl ⟨by rfl,?_⟩;go_simp;exact⟨Ext.refl _,rfl⟩
     ·refine aH ?_;intro xf y hg aD;have d6:xf 6=Ξ #[φ #[J qb.1.1,J qb.1.2,J qb.2.1,J qb.2.2.1,J qb.2.2.2],J 13]:=aD 6 (by decide);simp only[aE,ι,π,aj,ξ,aw,ar,aq];simp only[d6];refine .inl ⟨by rfl,?_⟩;go_simp;exact⟨Ext.refl _,rfl⟩
    ·intro xf y hg aX;have d6:xf 6=Ξ #[φ #[J qb.1.1,J qb.1.2,J qb.2.1,J qb.2.2.1,J qb.2.2.2],J 13]:=aX 6 (by decide) (by decide);simp only[aE,ι,π,aj,ξ,aw,ar,aq];simp only[d6]
     refine⟨J 13,?_,rfl⟩
     apply dD;rfl;intro w' aC;go_simp;(try with_reducible rfl)
    intro xf y hg aX;have d7:xf 7=φ #[J qb.1.1,J qb.1.2,J qb.2.1,J qb.2.2.1,J qb.2.2.2]:=aX 7 (by decide);have d8:xf 8=J 13:=aX 8 (by decide);simp only[aE,ι,π,aj,ξ,aw,ar,aq];simp only[d7,d8];clear aX d7 d8;refine gI 9 ?_;intro w' aC
    refine⟨w'.setRow b8 #[J qb.1.1,J qb.1.2,J qb.2.1,J qb.2.2.1,J qb.2.2.2],aR 34 (.tmp 8) (.tmp 57) rfl b8 rfl [J qb.1.1,J qb.1.2,J qb.2.1,J qb.2.2.1,J qb.2.2.2] rfl 34 [J o.b0,J o.b1,J o.b2,J o.b3,J o.b4] ((tm.out.dr.bl hg).bl aC) (by kernel_rfl) rfl (by simp[Τ]),bN (show b8≤b8 from Δ _) _,?_⟩
    have Tq:=qh (Whole.row ((tm.out.dr.bl hg).bl aC) [J qb.1.1,J qb.1.2,J qb.2.1,J qb.2.2.1,J qb.2.2.2]);have kn:=qh (bH (qL.out.trans ((((Θ b8 W6).drew).trans (hg.mono BK.out)).trans (aC.mono (Λ BK.out hg.size)))) (Δ _) #[J qb.1.1,J qb.1.2,J qb.2.1,J qb.2.2.1,J qb.2.2.2]);obtain⟨Vz,Tz⟩:=aB (w'.setRow b8 #[J qb.1.1,J qb.1.2,J qb.2.1,J qb.2.2.1,J qb.2.2.2]);rw[Tz] at Tq kn ⊢;clear aC Tz;refine aa 10 ?_;refine aF (by kernel_rfl) ?_ _;intro w7 BH;have KE:=qh (Tq.out.bl BH);have tM:=qh (kn.out.trans (BH.mono (by rw[←Ij.out];exact kn.out.size)));have pT:=qh (l6.out.bl (by rw[Ij.out];exact tM.out))
    have HR:Hid (fO eO (Vs.map vS,Es,G) (bL o) (uC o) (jh o)=(dv,13)):=qh (by
     unfold fO;rw[if_neg (by rw[QF.out];decide),if_neg (by rw[VE.out];exact h2),if_pos (.inr hb)])
    go_wp2;go_ret;exact cG.no HR.out (by decide) rfl pT.out.below (aJ.of_below (ag kF.out (by rw[Ij.out];exact tM.out)))
theorem Kp (h:bK w lo g A n c Vs B m k Es C r rc G W) (hS:gD (Vs.map vS,Es,G)) (o:dR) (m1:dK o.s o.n=τ):Ζ η 92 #[υ (ζ ⟨g,0,ε⟩),φ (ak o).toArray] W (cG w W lo g (fO eO (Vs.map vS,Es,G) (bL o) (uC o) (jh o))):=by
 by_cases h1:bI Es (bL o)=τ
 ·exact Vk h hS o h1
 ·have h1:=eq_false_of_ne_true h1
  by_cases h2:40≤m
  ·exact VZ h hS o h1 h2
  ·exact abc h hS o h1 h2 m1
end
section
variable {w W:ο} {lo g:Nat} {A:Option Κ} {n c:Nat} {Vs:List VC} {B:Option Κ} {m k:Nat} {Es:List EC} {C:Option Κ} {r rc:Nat} {G:List Gn}
theorem LZ (h:bK w lo g A n c Vs B m k Es C r rc G W) (hS:gD (Vs.map vS,Es,G)) (o:dR):Ζ η 95 #[υ (ζ ⟨g,0,ε⟩),φ (ak o).toArray] W (cG w W lo g (gU (Vs.map vS,Es,G) (bL o) (cX o))):=by
 cases h1:bu (Vs.map vS) (bL o) with
 |false=>exact Uo h hS o h1
 |true=>
  obtain⟨i,v,e1,e2,e3,-⟩:=ck (k:=fun v:VC=>v.1) (l:=Vs) ((cx Vs _).trans h1);exact Ub h hS o i v e2 e3 e1
theorem Mx (h:bK w lo g A n c Vs B m k Es C r rc G W) (hS:gD (Vs.map vS,Es,G)) (o:dR) (hk:o.k=1):Ζ η 68 #[υ (ζ ⟨g,0,ε⟩),φ (ak o).toArray] W (cG w W lo g (bQ (Vs.map vS,Es,G) o)):=by
 have tT:=qh hS;have HR:Hid (bQ (Vs.map vS,Es,G) o=og (Vs.map vS,Es,G) (bL o)):=qh (by unfold bQ;rw[if_pos hk]);clear hS;have H:=qh h;clear h;go_enter Tryz.func68,Tryz.ntmps68;go_upto_region 1 with fail
 obtain⟨W1,aV⟩:=aB (W.alloc (δ (ak o).toArray 36));have aL:Hid (Whole W1 W.heap.size 36 (ak o)):=qh (by rw[←aV];exact Whole.new_ _ _ _);have cB:Hid (bK w lo g A n c Vs B m k Es C r rc G W1):=qh (by rw[←aV];exact H.out.al _);have bE:Hid (σ W.heap.size W W1):=qh (by rw[←aV];exact az _ _);rw[aV];clear aV H;have Nb:Hid (W.heap.size≠g):=qh (aL.out.ne_ cB.out.s (by decide));obtain⟨b0,bp⟩:=aB W.heap.size;rw[bp] at aL Nb ⊢;clear bp;have oM:=qh (aJ.of_below (g:=g) bE.out);have O4:=aL.out.cell (i:=0) rfl;have rD:=aL.out.cell (i:=1) rfl;have sW:=aL.out.cell (i:=2) rfl;go_upto_region 3 with fail
 go_wp2_with (first
  |(go_at_call 90
    refine(JE cB.out tT.out o.s o.n).mono ?_
    rintro e w2 ⟨rfl,aP,rC,lB⟩;have bG:=qh aP;have xN:=qh lB;have jG:=qh (oM.out.trans rC);clear aP lB rC cB aL bE))
 go_ret;rw[HR.out];exact⟨rfl,bG.out,jG.out,xN.out⟩
theorem Ov (h:bK w lo g A n c Vs B m k Es C r rc G W) (hS:gD (Vs.map vS,Es,G)) (o:dR) (hk:o.k=2):Ζ η 68 #[υ (ζ ⟨g,0,ε⟩),φ (ak o).toArray] W (cG w W lo g (bQ (Vs.map vS,Es,G) o)):=by
 have tT:=qh hS;have HR:Hid (bQ (Vs.map vS,Es,G) o=oc (Vs.map vS,Es,G) (bL o)):=qh (by unfold bQ;rw[if_neg (by rw[hk];decide),if_pos hk]);clear hS;have H:=qh h;clear h;go_enter Tryz.func68,Tryz.ntmps68;go_upto_region 1 with fail
 obtain⟨W1,aV⟩:=aB (W.alloc (δ (ak o).toArray 36));have aL:Hid (Whole W1 W.heap.size 36 (ak o)):=qh (by rw[←aV];exact Whole.new_ _ _ _);have cB:Hid (bK w lo g A n c Vs B m k Es C r rc G W1):=qh (by rw[←aV];exact H.out.al _);have bE:Hid (σ W.heap.size W W1):=qh (by rw[←aV];exact az _ _);rw[aV];clear aV H;have Nb:Hid (W.heap.size≠g):=qh (aL.out.ne_ cB.out.s (by decide));obtain⟨b0,bp⟩:=aB W.heap.size;rw[bp] at aL Nb ⊢;clear bp;have oM:=qh (aJ.of_below (g:=g) bE.out);have O4:=aL.out.cell (i:=0) rfl;have rD:=aL.out.cell (i:=1) rfl;have sW:=aL.out.cell (i:=2) rfl;have n1:¬o.k=1:=by rw[hk];decide
 go_upto_region 5 with fail
 go_wp2_with (first
  |(go_at_call 91
    refine(I7 cB.out tT.out o.s o.n).mono ?_
    rintro e w2 ⟨rfl,aP,rC,lB⟩;have bG:=qh aP;have xN:=qh lB;have jG:=qh (oM.out.trans rC);clear aP lB rC cB aL bE))
 go_ret;rw[HR.out];exact⟨rfl,bG.out,jG.out,xN.out⟩
theorem MK (h:bK w lo g A n c Vs B m k Es C r rc G W) (hS:gD (Vs.map vS,Es,G)) (o:dR) (hk:o.k=3) (hm:dK o.s o.n=τ∧True):Ζ η 68 #[υ (ζ ⟨g,0,ε⟩),φ (ak o).toArray] W (cG w W lo g (bQ (Vs.map vS,Es,G) o)):=by
 have tT:=qh hS;have HM:=qh hm;clear hm;have HR:Hid (bQ (Vs.map vS,Es,G) o=fO eO (Vs.map vS,Es,G) (bL o) (uC o) (jh o)):=qh (by unfold bQ;rw[if_neg (by rw[hk];decide),if_neg (by rw[hk];decide),if_pos hk]);clear hS;have H:=qh h;clear h;go_enter Tryz.func68,Tryz.ntmps68;go_upto_region 1 with fail
 obtain⟨W1,aV⟩:=aB (W.alloc (δ (ak o).toArray 36));have aL:Hid (Whole W1 W.heap.size 36 (ak o)):=qh (by rw[←aV];exact Whole.new_ _ _ _);have cB:Hid (bK w lo g A n c Vs B m k Es C r rc G W1):=qh (by rw[←aV];exact H.out.al _);have bE:Hid (σ W.heap.size W W1):=qh (by rw[←aV];exact az _ _);rw[aV];clear aV H;have Nb:Hid (W.heap.size≠g):=qh (aL.out.ne_ cB.out.s (by decide));obtain⟨b0,bp⟩:=aB W.heap.size;rw[bp] at aL Nb ⊢;clear bp;have oM:=qh (aJ.of_below (g:=g) bE.out);have O4:=aL.out.cell (i:=0) rfl;have n1:¬o.k=1:=by rw[hk];decide
 have n2:¬o.k=2:=by rw[hk];decide
 go_upto_region 7 with fail
 clear O4;refine Jam ?_;refine a7 (v:=?_) (ζ 21) rfl (by rfl) ?_ ?_;rotate_left
 ·go_simp;(try with_reducible rfl)
 simp only[ξ,aw,ar,aq];refine eJ (ζ 22) rfl (by rfl) 36 (.tmp 3) rfl b0 rfl 36 (ak o) _ aL.out Tryz.underlying36 rfl (by kernel_rfl) ?_;simp only[ξ,aw,ar,aq]
 go_wp2_with (first
  |(go_at_call 92
    refine(Kp cB.out tT.out o HM.out.1).mono ?_
    rintro e w2 ⟨rfl,aP,rC,lB⟩;have bG:=qh aP;have xN:=qh lB;have jG:=qh (oM.out.trans rC);clear aP lB rC cB aL bE))
 go_ret;rw[HR.out];exact⟨rfl,bG.out,jG.out,xN.out⟩
theorem Lj (h:bK w lo g A n c Vs B m k Es C r rc G W) (hS:gD (Vs.map vS,Es,G)) (o:dR) (hk:o.k=4):Ζ η 68 #[υ (ζ ⟨g,0,ε⟩),φ (ak o).toArray] W (cG w W lo g (bQ (Vs.map vS,Es,G) o)):=by
 have tT:=qh hS;have HR:Hid (bQ (Vs.map vS,Es,G) o=jK (Vs.map vS,Es,G) (bL o)):=qh (by unfold bQ;rw[if_neg (by rw[hk];decide),if_neg (by rw[hk];decide),if_neg (by rw[hk];decide),if_pos hk]);clear hS;have H:=qh h;clear h;go_enter Tryz.func68,Tryz.ntmps68;go_upto_region 1 with fail
 obtain⟨W1,aV⟩:=aB (W.alloc (δ (ak o).toArray 36));have aL:Hid (Whole W1 W.heap.size 36 (ak o)):=qh (by rw[←aV];exact Whole.new_ _ _ _);have cB:Hid (bK w lo g A n c Vs B m k Es C r rc G W1):=qh (by rw[←aV];exact H.out.al _);have bE:Hid (σ W.heap.size W W1):=qh (by rw[←aV];exact az _ _);rw[aV];clear aV H;have Nb:Hid (W.heap.size≠g):=qh (aL.out.ne_ cB.out.s (by decide));obtain⟨b0,bp⟩:=aB W.heap.size;rw[bp] at aL Nb ⊢;clear bp;have oM:=qh (aJ.of_below (g:=g) bE.out);have O4:=aL.out.cell (i:=0) rfl;have rD:=aL.out.cell (i:=1) rfl;have sW:=aL.out.cell (i:=2) rfl;have n1:¬o.k=1:=by rw[hk];decide
 have n2:¬o.k=2:=by rw[hk];decide
 have n3:¬o.k=3:=by rw[hk];decide
 go_upto_region 9 with fail
 go_wp2_with (first
  |(go_at_call 93
    refine(I9 cB.out tT.out o.s o.n).mono ?_
    rintro e w2 ⟨rfl,aP,rC,lB⟩;have bG:=qh aP;have xN:=qh lB;have jG:=qh (oM.out.trans rC);clear aP lB rC cB aL bE))
 go_ret;rw[HR.out];exact⟨rfl,bG.out,jG.out,xN.out⟩
theorem MQ (h:bK w lo g A n c Vs B m k Es C r rc G W) (hS:gD (Vs.map vS,Es,G)) (o:dR) (hk:o.k=5) (hm:True∧(0≤o.m∧o.m≤3)):Ζ η 68 #[υ (ζ ⟨g,0,ε⟩),φ (ak o).toArray] W (cG w W lo g (bQ (Vs.map vS,Es,G) o)):=by
 have tT:=qh hS;have HM:=qh hm;clear hm;have HR:Hid (bQ (Vs.map vS,Es,G) o=dJ (Vs.map vS,Es,G) (bL o) (rz o) (cX o) o.m):=qh (by unfold bQ;rw[if_neg (by rw[hk];decide),if_neg (by rw[hk];decide),if_neg (by rw[hk];decide),if_neg (by rw[hk];decide),if_pos hk]);clear hS;have H:=qh h;clear h;go_enter Tryz.func68,Tryz.ntmps68;go_upto_region 1 with fail
 obtain⟨W1,aV⟩:=aB (W.alloc (δ (ak o).toArray 36));have aL:Hid (Whole W1 W.heap.size 36 (ak o)):=qh (by rw[←aV];exact Whole.new_ _ _ _);have cB:Hid (bK w lo g A n c Vs B m k Es C r rc G W1):=qh (by rw[←aV];exact H.out.al _);have bE:Hid (σ W.heap.size W W1):=qh (by rw[←aV];exact az _ _);rw[aV];clear aV H;have Nb:Hid (W.heap.size≠g):=qh (aL.out.ne_ cB.out.s (by decide));obtain⟨b0,bp⟩:=aB W.heap.size;rw[bp] at aL Nb ⊢;clear bp;have oM:=qh (aJ.of_below (g:=g) bE.out);have O4:=aL.out.cell (i:=0) rfl;have n1:¬o.k=1:=by rw[hk];decide
 have n2:¬o.k=2:=by rw[hk];decide
 have n3:¬o.k=3:=by rw[hk];decide
 have n4:¬o.k=4:=by rw[hk];decide
 go_upto_region 11 with fail
 clear O4;refine Jam ?_;refine a7 (v:=?_) (ζ 32) rfl (by rfl) ?_ ?_;rotate_left
 ·go_simp;(try with_reducible rfl)
 simp only[ξ,aw,ar,aq];refine eJ (ζ 33) rfl (by rfl) 36 (.tmp 3) rfl b0 rfl 36 (ak o) _ aL.out Tryz.underlying36 rfl (by kernel_rfl) ?_;simp only[ξ,aw,ar,aq]
 go_wp2_with (first
  |(go_at_call 94
    refine(K7 cB.out tT.out o HM.out.2).mono ?_
    rintro e w2 ⟨rfl,aP,rC,lB⟩;have bG:=qh aP;have xN:=qh lB;have jG:=qh (oM.out.trans rC);clear aP lB rC cB aL bE))
 go_ret;rw[HR.out];exact⟨rfl,bG.out,jG.out,xN.out⟩
theorem Nv (h:bK w lo g A n c Vs B m k Es C r rc G W) (hS:gD (Vs.map vS,Es,G)) (o:dR) (hk:o.k=6):Ζ η 68 #[υ (ζ ⟨g,0,ε⟩),φ (ak o).toArray] W (cG w W lo g (bQ (Vs.map vS,Es,G) o)):=by
 have tT:=qh hS;have HR:Hid (bQ (Vs.map vS,Es,G) o=gU (Vs.map vS,Es,G) (bL o) (cX o)):=qh (by unfold bQ;rw[if_neg (by rw[hk];decide),if_neg (by rw[hk];decide),if_neg (by rw[hk];decide),if_neg (by rw[hk];decide),if_neg (by rw[hk];decide),if_pos hk]);clear hS;have H:=qh h;clear h;go_enter Tryz.func68,Tryz.ntmps68;go_upto_region 1 with fail
 obtain⟨W1,aV⟩:=aB (W.alloc (δ (ak o).toArray 36));have aL:Hid (Whole W1 W.heap.size 36 (ak o)):=qh (by rw[←aV];exact Whole.new_ _ _ _);have cB:Hid (bK w lo g A n c Vs B m k Es C r rc G W1):=qh (by rw[←aV];exact H.out.al _);have bE:Hid (σ W.heap.size W W1):=qh (by rw[←aV];exact az _ _);rw[aV];clear aV H;have Nb:Hid (W.heap.size≠g):=qh (aL.out.ne_ cB.out.s (by decide));obtain⟨b0,bp⟩:=aB W.heap.size;rw[bp] at aL Nb ⊢;clear bp;have oM:=qh (aJ.of_below (g:=g) bE.out);have O4:=aL.out.cell (i:=0) rfl;have n1:¬o.k=1:=by rw[hk];decide
 have n2:¬o.k=2:=by rw[hk];decide
 have n3:¬o.k=3:=by rw[hk];decide
 have n4:¬o.k=4:=by rw[hk];decide
 have n5:¬o.k=5:=by rw[hk];decide
 go_upto_region 13 with fail
 clear O4;refine Jam ?_;refine a7 (v:=?_) (ζ 37) rfl (by rfl) ?_ ?_;rotate_left
 ·go_simp;(try with_reducible rfl)
 simp only[ξ,aw,ar,aq];refine eJ (ζ 38) rfl (by rfl) 36 (.tmp 3) rfl b0 rfl 36 (ak o) _ aL.out Tryz.underlying36 rfl (by kernel_rfl) ?_;simp only[ξ,aw,ar,aq]
 go_wp2_with (first
  |(go_at_call 95
    refine(LZ cB.out tT.out o).mono ?_
    rintro e w2 ⟨rfl,aP,rC,lB⟩;have bG:=qh aP;have xN:=qh lB;have jG:=qh (oM.out.trans rC);clear aP lB rC cB aL bE))
 go_ret;rw[HR.out];exact⟨rfl,bG.out,jG.out,xN.out⟩
theorem LK (h:bK w lo g A n c Vs B m k Es C r rc G W) (hS:gD (Vs.map vS,Es,G)) (o:dR) (n1:¬o.k=1) (n2:¬o.k=2) (n3:¬o.k=3) (n4:¬o.k=4) (n5:¬o.k=5) (n6:¬o.k=6):Ζ η 68 #[υ (ζ ⟨g,0,ε⟩),φ (ak o).toArray] W (cG w W lo g (bQ (Vs.map vS,Es,G) o)):=by
 have tT:=qh hS;have HR:Hid (bQ (Vs.map vS,Es,G) o=setS (Vs.map vS,Es,G) (bL o) o.e (fV o)):=qh (by unfold bQ;rw[if_neg n1,if_neg n2,if_neg n3,if_neg n4,if_neg n5,if_neg n6]);clear hS;have H:=qh h;clear h;go_enter Tryz.func68,Tryz.ntmps68;go_upto_region 1 with fail
 obtain⟨W1,aV⟩:=aB (W.alloc (δ (ak o).toArray 36));have aL:Hid (Whole W1 W.heap.size 36 (ak o)):=qh (by rw[←aV];exact Whole.new_ _ _ _);have cB:Hid (bK w lo g A n c Vs B m k Es C r rc G W1):=qh (by rw[←aV];exact H.out.al _);have bE:Hid (σ W.heap.size W W1):=qh (by rw[←aV];exact az _ _);rw[aV];clear aV H;have Nb:Hid (W.heap.size≠g):=qh (aL.out.ne_ cB.out.s (by decide));obtain⟨b0,bp⟩:=aB W.heap.size;rw[bp] at aL Nb ⊢;clear bp;have oM:=qh (aJ.of_below (g:=g) bE.out);have O4:=aL.out.cell (i:=0) rfl;go_upto_region 14 with fail
 clear O4;refine Jam ?_;refine a7 (v:=?_) (ζ 40) rfl (by rfl) ?_ ?_;rotate_left
 ·go_simp;(try with_reducible rfl)
 simp only[ξ,aw,ar,aq];refine eJ (ζ 41) rfl (by rfl) 36 (.tmp 3) rfl b0 rfl 36 (ak o) _ aL.out Tryz.underlying36 rfl (by kernel_rfl) ?_;simp only[ξ,aw,ar,aq]
 go_wp2_with (first
  |(go_at_call 96
    refine(ON cB.out tT.out o).mono ?_
    rintro e w2 ⟨rfl,aP,rC,lB⟩;have bG:=qh aP;have xN:=qh lB;have jG:=qh (oM.out.trans rC);clear aP lB rC cB aL bE))
 go_ret;rw[HR.out];exact⟨rfl,bG.out,jG.out,xN.out⟩
theorem Vp (h:bK w lo g A n c Vs B m k Es C r rc G W) (hS:gD (Vs.map vS,Es,G)) (o:dR) (ho:iu o=0):Ζ η 68 #[υ (ζ ⟨g,0,ε⟩),φ (ak o).toArray] W (cG w W lo g (bQ (Vs.map vS,Es,G) o)):=by
 obtain⟨m1,m2,m3,m4⟩:=AP ho
 by_cases k1:o.k=1
 ·exact Mx h hS o k1
 by_cases k2:o.k=2
 ·exact Ov h hS o k2
 by_cases k3:o.k=3
 ·exact MK h hS o k3 ⟨m1,trivial⟩
 by_cases k4:o.k=4
 ·exact Lj h hS o k4
 by_cases k5:o.k=5
 ·exact MQ h hS o k5 ⟨trivial,by
   have:=m2
   unfold lO at this;rw[if_neg (by rw[k5];decide),if_neg (by rw[k5];decide),if_pos k5,Jar,Jar] at this;exact of_decide_eq_true this.2⟩
 by_cases k6:o.k=6
 ·exact Nv h hS o k6
 exact LK h hS o k1 k2 k3 k4 k5 k6
end
structure mh (W:ο) (lo:Nat) (A:Option Κ) (n c:Nat) (Vs:List VC) (B:Option Κ) (m k:Nat) (Es:List EC) (C:Option Κ) (r rc:Nat) (G:List Gn):Prop where
 v:W.ownsRow lo 59 5 (γ A n c) n (ah vC Vs)
 e:W.ownsRow lo 67 4 (γ B m k) m (ah eC Es)
 rg:∀x∈Vs,ko W x.2.1
 gn:W.ownsRow lo 98 6 (γ C r rc) r (ah cZ G)
theorem oY {W:ο} {lo k n c g:Nat} {A:Option Κ} {T T':TypeId} {xs cs:List ψ} (h:W.ownsRow lo T k (γ A n c) n xs) (hw:Whole W g T' cs) (hT:T'≠T) (qy:Array ψ):(W.setRow g qy).ownsRow lo T k (γ A n c) n xs:=
 h.kept (ir (bN (S:=fun x=>x=g) rfl qy)) (.inr (Ne.symm (bD h hw hT)))
section
variable {W W':ο} {lo:Nat} {A:Option Κ} {n c:Nat} {Vs:List VC} {B:Option Κ} {m k:Nat} {Es:List EC} {C:Option Κ} {r rc:Nat} {G:List Gn}
theorem mh.up (h:mh W lo A n c Vs B m k Es C r rc G) (hb:σ W.heap.size W W'):mh W' lo A n c Vs B m k Es C r rc G:=
 ⟨bo h.v hb,bo h.e hb,fun x hx=>(h.rg x hx).bl hb,bo h.gn hb⟩
theorem mh.row {g:Nat} {cs:List ψ} (h:mh W lo A n c Vs B m k Es C r rc G) (hw:Whole W g 28 cs) (qy:Array ψ):mh (W.setRow g qy) lo A n c Vs B m k Es C r rc G:=
 ⟨oY h.v hw (by decide) _,oY h.e hw (by decide) _,fun x hx=>(h.rg x hx).row hw (by decide) _,oY h.gn hw (by decide) _⟩
theorem ud (h:bz W A n c Vs B m k Es) (hg:bg W W.heap.size 6 C r rc (ah cZ G)) (hn:n≤1000) (hm:m≤1000) (hr:r≤1000) (fy:∀x∈Vs,x.2.1.2.1≤1000000):
 Ζ η 55 #[φ #[γ A n c,γ B m k,γ C r rc]] W fun e w'=>∃A' c' B' k' C' iv Ws,e=.returned (φ #[γ A' n c',γ B' m k',γ C' r iv])∧mh w' W.heap.size A' n c' Ws B' m k' Es C' r iv G∧Ws.map vS=Vs.map vS∧σ W.heap.size W w':=by
 have fp:σ W.heap.size W ((W.alloc (δ #[γ A n c,γ B m k,γ C r rc] 28)).alloc (δ #[γ ε 0 0,γ ε 0 0,γ ε 0 0] 28)):=aI (az W _) _;have HH:=qh (h.below fp);have HG:=qh (hg.bl fp);have HB:=qh fp;have aQ:Hid (Whole ((W.alloc (δ #[γ A n c,γ B m k,γ C r rc] 28)).alloc (δ #[γ ε 0 0,γ ε 0 0,γ ε 0 0] 28)) W.heap.size 28 [γ A n c,γ B m k,γ C r rc]):=qh ((Whole.new_ _ _ [_,_,_]).al _);have mf:Hid (Whole ((W.alloc (δ #[γ A n c,γ B m k,γ C r rc] 28)).alloc (δ #[γ ε 0 0,γ ε 0 0,γ ε 0 0] 28)) (W.heap.size+1) 28 [γ ε 0 0,γ ε 0 0,γ ε 0 0]):=qh (Whole.new2 (by simp));have BG:=qh fy;clear h hg fp fy;go_enter Tryz.func55,Tryz.ntmps55;go_upto_region 1 with fail
 obtain⟨W0,bO⟩:=aB (((W.alloc (δ #[γ A n c,γ B m k,γ C r rc] 28)).alloc (δ #[γ ε 0 0,γ ε 0 0,γ ε 0 0] 28)));obtain⟨b2,jc⟩:=aB (W.heap.size+1);obtain⟨b1,dE⟩:=aB W.heap.size;have L2:Hid (W.heap.size≤b2):=qh (by omega);have n12:b1≠b2:=by omega
 rw[bO] at HH HG HB aQ mf ⊢;rw[jc] at mf ⊢;rw[dE] at aQ ⊢;clear bO dE jc;have fL:∀w',Kept (fun b=>b=b2) W0.drew w'→w'.cell? ⟨b1,0,ε⟩=ζ (γ A n c):=fun w' h=>h.cell (aQ.out.dr.cell (i:=0) rfl) n12
 have ld1:∀w',Kept (fun b=>b=b2) W0.drew w'→w'.cell? ⟨b1,1,ε⟩=ζ (γ B m k):=fun w' h=>h.cell (aQ.out.dr.cell (i:=1) rfl) n12
 have ka:∀w',Kept (fun b=>b=b2) W0.drew w'→w'.cell? ⟨b1,2,ε⟩=ζ (γ C r rc):=fun w' h=>h.cell (aQ.out.dr.cell (i:=2) rfl) n12
 refine ay (fun b=>b=b2) (by kernel_rfl) ?_;refine aa 0 ?_;refine aa 1 ?_;refine aa 3 ?_;refine aa 4 ?_;refine mw 2 ?_;intro w' aC
 refine(Kv A n c Vs B m k Es w' (HH.out.below ((Θ _ W0).drew.trans (aC.mono (Δ _)))) (by omega) (by omega) BG.out).mono ?_
 rintro e w5 ⟨A5,c5,B5,k5,Ws,rfl,Ph,S1,fP⟩
 refine⟨_,rfl,Kept.of_below fP,?_⟩
 have bC:=((Θ _ W0).drew.trans (aC.mono (Δ _)));have fw:W.heap.size≤w'.heap.size:=Λ HB.out.size (Λ (by exact Δ _) aC.size);have Sn:=qh (eG Ph.v fw);have HE5:=qh (eG Ph.e fw);have HR5:Hid (∀x∈Ws,ko w5 x.2.1):=qh (fun x hx=>ko.of_own (Ph.r.own x hx));have Qm:=qh S1;have O6:=qh ((HG.out.bl bC).bl fP);have DF:=qh ((mf.out.bl bC).bl fP);have kF:=qh (ag (ag HB.out bC) fP);clear aC bC fw Ph S1 fP HH HG mf HB aQ fL ld1 ka;simp only[ξ,aw,ar,aq];refine mw 5 ?_;intro w' aC
 refine(GF C r rc (ah cZ G) w' (O6.out.bl aC) (bU cZ kz G) (by omega)).mono ?_
 rintro e w8 ⟨C8,CE,rfl,Tu⟩
 refine⟨_,rfl,Kept.of_below Tu.below,?_⟩
 have kj:Hid (mh w8 W.heap.size A5 n c5 Ws B5 m k5 Es C8 r CE G):=qh ⟨bo (bo Sn.out aC) Tu.below,bo (bo HE5.out aC) Tu.below,fun x hx=>((HR5.out x hx).bl aC).bl Tu.below,eG Tu.own (Λ kF.out.size aC.size)⟩;have Tm:=qh ((DF.out.bl aC).bl Tu.below);have nV:=qh (ag (ag kF.out aC) Tu.below);clear aC Tu Sn HE5 HR5 O6 DF kF;simp only[ξ,aw,ar,aq];refine aa 6 ?_;refine gI 7 ?_;intro w' aC
 refine⟨w'.setRow b2 #[γ A5 n c5,γ B5 m k5,γ C8 r CE],aR 28 (.tmp 2) (.tmp 9) rfl b2 rfl [γ A5 n c5,γ B5 m k5,γ C8 r CE] rfl 28 [γ ε 0 0,γ ε 0 0,γ ε 0 0] (Tm.out.bl aC) (by kernel_rfl) rfl (by simp[Τ]),bN (S:=fun b=>b=b2) rfl _,?_⟩
 have fe:=qh ((kj.out.up aC).row (Tm.out.bl aC) #[γ A5 n c5,γ B5 m k5,γ C8 r CE]);have Kf:=qh (Whole.row (Tm.out.bl aC) [γ A5 n c5,γ B5 m k5,γ C8 r CE]);have oC:=qh (bH (ag nV.out aC) L2.out #[γ A5 n c5,γ B5 m k5,γ C8 r CE]);obtain⟨V3,Oi⟩:=aB (w'.setRow b2 #[γ A5 n c5,γ B5 m k5,γ C8 r CE]);rw[Oi] at fe Kf oC ⊢;clear aC Oi kj Tm nV;(try simp only[ξ,aw,ar,aq]);refine aF (by kernel_rfl) ?_ _;intro wa Pb;have Rx:=qh (fe.out.up Pb);have Pk:=qh (Kf.out.bl Pb);have lX:=qh (ag oC.out Pb);clear Pb fe Kf oC;go_wp2;exact xm rfl b2 rfl Pk.out Tryz.underlying28 rfl (by kernel_rfl) rfl ⟨A5,c5,B5,k5,C8,CE,Ws,rfl,Rx.out,Qm.out,lX.out⟩
end
def wZ (W:ο) (R:SS × Int) (e:Ending) (w':ο):Prop:=
 σ W.heap.size W w'∧((R.2=0∧∃A n c Vs B m k Es C r rc G,e=.returned (Ξ #[φ #[γ A n c,γ B m k,γ C r rc],J 0])∧mh w' W.heap.size A n c Vs B m k Es C r rc G∧(Vs.map vS,Es,G)=R.1)∨(R.2≠0∧e=.returned (Ξ #[φ #[γ ε 0 0,γ ε 0 0,γ ε 0 0],J R.2])))
theorem pq {P:Program} {fn:Func} {R:Ending→ο→Prop} {a:Act} {w:ο} {p q:Tmp} {t:TypeId} (h:fn.results=#[.cell p t,.tmp q]) (g:Nat) {t':TypeId} {cs:List ψ} {d:TypeDesc}
 (hp:a.tmps.getD p undef=υ (ζ ⟨g,0,ε⟩)) (hW:Whole w g t' cs) (hu:P.underlying t=ζ d) (hd:d.isRow=τ) (hi:(P.info? t).map (·.size)=ζ cs.length)
 (v:ψ) (hv:a.tmps.getD q undef=v) (Qe:a.defers=[]) (hR:R (.returned (Ξ #[φ cs.toArray,v])) w):bodyPost P fn R .ret a w:=by
 refine bodyPost_ret (v:=Ξ #[φ cs.toArray,v]) ?_ Qe hR
 have hl:=run_loadVar_mid (P:=P) w g 0 t cs d (fun j v hv=>by
  have:=hW.cell hv
  simpa using this) hu hd hi
 rw[Array.getD_eq_getD_getElem?] at hp hv;simp[results,h,hp,hv,asAddr,Sem.run_bind,Result.andThen,hl]
theorem JV {S0:SS} {L:List dR} {S:SS} {j:Nat} {o:dR} (h:jT S0 L=jT S (L.drop j)) (ho:L[j]? =ζ o) (hk:(bQ S o).2=0):jT S0 L=jT (bQ S o).1 (L.drop (j+1)):=by
 have hj:=(ν.1 ho).1;have e:L.drop j=o::L.drop (j+1):=by rw[Χ hj,(ν.1 ho).2]
 rw[h,e]
 show(if (bQ S o).2=0 then _ else _)=_
 rw[if_pos hk]
theorem J7 {S0:SS} {L:List dR} {S:SS} {j:Nat} {o:dR} (h:jT S0 L=jT S (L.drop j)) (ho:L[j]? =ζ o) (hk:¬(bQ S o).2=0):jT S0 L=(dv,(bQ S o).2):=by
 have hj:=(ν.1 ho).1;have e:L.drop j=o::L.drop (j+1):=by rw[Χ hj,(ν.1 ho).2]
 rw[h,e]
 show(if (bQ S o).2=0 then _ else _)=_
 rw[if_neg hk]
theorem bK.so {w W:ο} {lo g:Nat} {A:Option Κ} {n c:Nat} {Vs:List VC} {B:Option Κ} {m k:Nat} {Es:List EC} {C:Option Κ} {r rc:Nat} {G:List Gn} (h:bK w lo g A n c Vs B m k Es C r rc G W):mh W w.heap.size A n c Vs B m k Es C r rc G:=
 ⟨eG h.v h.lo_,eG h.e h.lo_,h.rg,eG h.gn h.lo_⟩
theorem mh.cellT {W:ο} {lo g:Nat} {A:Option Κ} {n c:Nat} {Vs:List VC} {B:Option Κ} {m k:Nat} {Es:List EC} {C:Option Κ} {r rc:Nat} {G:List Gn} {cs:List ψ} (h:mh W lo A n c Vs B m k Es C r rc G) (hw:Whole W g 28 cs) (i:Nat) (u:ψ):mh (W.setCell ⟨g,i,ε⟩ u) lo A n c Vs B m k Es C r rc G:=
 ⟨aT h.v (bD h.v hw (by decide)) _,aT h.e (bD h.e hw (by decide)) _,fun x hx=>(h.rg x hx).cell hw (by decide) _ _,aT h.gn (bD h.gn hw (by decide)) _⟩
section
variable {W:ο} {A:Option Κ} {n c:Nat} {Vs:List VC} {B:Option Κ} {m k:Nat} {Es:List EC} {C:Option Κ} {r rc:Nat} {G:List Gn}
theorem DU (h:bz W A n c Vs B m k Es) (hg:bg W W.heap.size 6 C r rc (ah cZ G)) (hS:gD (Vs.map vS,Es,G)) (PA:Option Κ) (pn pc:Nat) (L:List dR) (hL:bg W W.heap.size 20 PA pn pc (ah ak L)) (ti:pn≤1000) (ho:∀o∈L,iu o=0):
 Ζ η 44 #[φ #[γ A n c,γ B m k,γ C r rc],γ PA pn pc] W (wZ W (jT (Vs.map vS,Es,G) L)):=by
 have QV:Vs.length=n:=h.v.rlen aS (by decide);have Fb:Es.length=m:=h.e.rlen bM (by decide);have Fm:G.length=r:=hg.rlen bT (by decide);have hn:n≤1000:=by have:=hS.v24;rw[Ρ] at this;omega
 have hm:m≤1000:=by have h1:Es.length≤40:=hS.e40;omega
 have hr:r≤1000:=by have h1:G.length≤400:=hS.g400;omega
 have fy:∀x∈Vs,x.2.1.2.1≤1000000:=fun x hx=>by
  have h1:=hS.short (vS x) (Α.2 ⟨x,hx,rfl⟩);have h2:x.2.1.2.2.2.length=x.2.1.2.1:=(h.r x hx).2.dlen;have h3:x.2.1.2.2.2.length≤80:=h1;omega
 have wN:L.length=pn:=hL.rlen eB (by decide);have fp:σ W.heap.size W ((W.alloc (δ #[γ A n c,γ B m k,γ C r rc] 28)).alloc (δ #[γ ε 0 0,γ ε 0 0,γ ε 0 0] 28)):=aI (az W _) _;have HC:Hid (∀X,σ W.heap.size W X→Ζ η 55 #[φ #[γ A n c,γ B m k,γ C r rc]] X fun e w'=>∃A' c' B' k' C' iv Ws,e=.returned (φ #[γ A' n c',γ B' m k',γ C' r iv])∧mh w' X.heap.size A' n c' Ws B' m k' Es C' r iv G∧Ws.map vS=Vs.map vS∧σ X.heap.size X w'):=qh (fun X hX=>ud (h.below hX) (hg.bl hX) hn hm hr fy);have Je:=qh hL;have mQ:=qh hS;have WT:=qh ho;have WZ:=qh wN;have bw:=qh fp;have aQ:Hid (Whole ((W.alloc (δ #[γ A n c,γ B m k,γ C r rc] 28)).alloc (δ #[γ ε 0 0,γ ε 0 0,γ ε 0 0] 28)) W.heap.size 28 [γ A n c,γ B m k,γ C r rc]):=qh ((Whole.new_ _ _ [_,_,_]).al _);have mf:Hid (Whole ((W.alloc (δ #[γ A n c,γ B m k,γ C r rc] 28)).alloc (δ #[γ ε 0 0,γ ε 0 0,γ ε 0 0] 28)) (W.heap.size+1) 28 [γ ε 0 0,γ ε 0 0,γ ε 0 0]):=qh (Whole.new2 (by simp));clear h hg hS hL ho wN fp fy QV Fb Fm;go_enter Tryz.func44,Tryz.ntmps44;go_upto_region 1 with fail
 obtain⟨W0,bO⟩:=aB (((W.alloc (δ #[γ A n c,γ B m k,γ C r rc] 28)).alloc (δ #[γ ε 0 0,γ ε 0 0,γ ε 0 0] 28)));obtain⟨b1,dE⟩:=aB (W.heap.size+1);obtain⟨b0,bp⟩:=aB W.heap.size;have L1:Hid (W.heap.size≤b1):=qh (by omega);rw[bO] at bw aQ mf ⊢;rw[dE] at mf ⊢;rw[bp] at aQ ⊢;clear bO bp dE;have x0:=aQ.out.cell (i:=0) rfl;have x1:=aQ.out.cell (i:=1) rfl;have x2:=aQ.out.cell (i:=2) rfl
 go_upto_region 2 with (first
  |(go_at_call 55
    refine(HC.out _ bw.out).mono ?_
    rintro e w5 ⟨A5,c5,B5,k5,C5,Xx,Ws,rfl,SD,S1,fP⟩;have l6:=qh SD;have Sn:=qh S1;have kF:=qh fP;have DF:=qh (mf.out.bl fP);clear SD S1 fP x0 x1 x2 aQ mf HC))
 have HT:Hid (bK W W0.heap.size w5.heap.size A5 n c5 Ws B5 m k5 Es C5 r Xx G (w5.alloc (δ #[γ A5 n c5,γ B5 m k5,γ C5 r Xx] 28))):=qh (by
  have hu:=l6.out.up (az w5 (δ #[γ A5 n c5,γ B5 m k5,γ C5 r Xx] 28));exact⟨Whole.new_ _ _ [_,_,_],hu.v,hu.e,hu.rg,hu.gn,aI (ag bw.out kF.out) _,bw.out.size,Λ kF.out.size (az w5 _).size,Λ bw.out.size kF.out.size⟩)
 have HZ6:=qh (DF.out.al (δ #[γ A5 n c5,γ B5 m k5,γ C5 r Xx] 28));have Ng:Hid (b1≠w5.heap.size):=qh (by have:=DF.out.lt;omega);obtain⟨w0,Pr⟩:=aB (w5.alloc (δ #[γ A5 n c5,γ B5 m k5,γ C5 r Xx] 28));obtain⟨g,gg⟩:=aB w5.heap.size;obtain⟨lo,Su⟩:=aB W0.heap.size;rw[Pr] at HT HZ6 ⊢;rw[gg] at HT Ng ⊢;rw[Su] at HT;have HO:Hid (gD (Ws.map vS,Es,G)):=qh (by rw[Sn.out];exact mQ.out);have HA:Hid (jT (Vs.map vS,Es,G) L=jT (Ws.map vS,Es,G) (L.drop 0)):=qh (by rw[Sn.out];rfl);clear Pr gg Su l6 kF DF bw Sn;go_wp2;go_loopw [14] (fun i wr=>∃(j:Nat) (A:Option Κ) (n c:Nat) (Vq:List VC) (B:Option Κ) (m k:Nat) (SF:List EC) (C:Option Κ) (r rc:Nat) (Gq:List Gn),j≤pn∧i=J (j:Int)∧Hid (bK W lo g A n c Vq B m k SF C r rc Gq wr)∧Hid (gD (Vq.map vS,SF,Gq))∧Hid (jT (Vs.map vS,Es,G) L=jT (Vq.map vS,SF,Gq) (L.drop j))∧Hid (aJ g w0 wr)) (fun i _=>pn - (intOf i).toNat)
 case atStart=>exact⟨0,A5,n,c5,Ws,B5,m,k5,Es,C5,r,Xx,G,Jas _,rfl,HT,HO,HA,qh (aJ.refl g _)⟩
 case round=>
  clear HT HO HA;obtain⟨j,A,n,c,Vq,B,m,k,SF,C,r,rc,Gq,hj,rfl,HT,HO,HA,HK⟩:=hrel;have Mf:=qh (HK.out.w _ _ _ HZ6.out Ng.out (by decide) (by decide) (by decide));have Ll:=WZ.out
  by_cases dz:j<pn
  ·have BD:L[j]? =ζ (L[j]'(by omega)):=θ _;obtain⟨o,go⟩:=aB (L[j]'(by omega));rw[go] at BD;have Ht:=qh BD;have Tp:Hid (iu o=0):=qh (WT.out o (ω BD));obtain⟨b,off,rfl,aY,a8⟩:=(Je.out.bl HT.out.below).place eB (by decide) (by omega);have HP:=qh (a8 j o BD);clear go BD a8 aY Ll;obtain⟨⟨T,x⟩,gk⟩:∃z,bQ (Vq.map vS,SF,Gq) o=z:=⟨_,rfl⟩
   have HD:Hid (∀X,bK W lo g A n c Vq B m k SF C r rc Gq X→Ζ η 68 #[υ (ζ ⟨g,0,ε⟩),φ (ak o).toArray] X (cG W X lo g (T,x))):=qh (fun X hX=>gk▸Vp hX HO.out o Tp.out);have ZE:=qh gk;clear gk;go_upto_region 4 with fail
   refine Jam ?_;refine a7 (v:=?_) (ζ 16) rfl (by rfl) ?_ ?_;rotate_left
   ·go_simp;(try with_reducible rfl)
   simp only[ξ,aw,ar,aq];refine wR (ζ 17) rfl (by rfl) 36 (.tmp 16) rfl ⟨b,off+j*20,ε⟩ rfl (ak o) _ HP.out Tryz.underlying36 rfl (by kernel_rfl) ?_;simp only[ξ,aw,ar,aq];refine Om 8 rfl rfl rfl 36 (.tmp 17) rfl rfl #[J 0,J 0,J 0,J 0,J 0,J 0,J 0,J 0,J 0,J 0,J 0,J 0,J 0,J 0,J 0,J 0,J 0,Β ρ,.string ⟨#[]⟩,J 0] ?_ (ak o).toArray (by simp) rfl (by kernel_rfl) rfl (uw o) ?_
   ·go_simp;(try with_reducible rfl)
   simp only[ξ,aw,ar,aq];have XR:=qh (HT.out.al (δ (ak o).toArray 36));have jG:=qh (HK.out.trans (aJ.of_below (az wr (δ (ak o).toArray 36))));have HN:Hid (Whole (wr.alloc (δ (ak o).toArray 36)) wr.heap.size 36 (ak o)):=qh (Whole.new_ _ _ _);obtain⟨W2,eU⟩:=aB (wr.alloc (δ (ak o).toArray 36));obtain⟨g2,mA⟩:=aB wr.heap.size;rw[eU] at XR jG HN ⊢;rw[mA] at HN ⊢;clear eU mA HT HK Mf HP;go_upto_region 5 with fail
   refine Jam ?_;refine eJ (ζ 18) rfl (by rfl) 36 (.tmp 8) rfl g2 rfl 36 (ak o) _ HN.out Tryz.underlying36 rfl (by kernel_rfl) ?_;simp only[ξ,aw,ar,aq];go_wp2_with fail
   refine(HD.out _ XR.out).mono ?_
   rintro e w3 ⟨rfl,bA,Ec,hd3⟩;have bB:=qh bA;have BF:=qh (jG.out.trans Ec);clear bA Ec XR jG HN HD
   by_cases hx:x=0
   ·subst hx;obtain⟨A',n',c',V',B',m',k',E',C',r',iv,G',u6,AQ⟩:=hd3 rfl;have Xa:=qh u6
    have Ck:Hid (gD (V'.map vS,E',G')):=qh (by
     have:=HO.out.kind Tp.out
     rw[ZE.out] at this;rw[AQ];exact this)
    have HA3:Hid (jT (Vs.map vS,Es,G) L=jT (V'.map vS,E',G') (L.drop (j+1))):=qh (by
     have:=JV HA.out Ht.out (by rw[ZE.out])
     rw[ZE.out] at this;rw[AQ];exact this)
    clear u6 AQ hd3;go_wp2;go_roundw
    case rel=>exact⟨j+1,_,_,_,_,_,_,_,_,_,_,_,_,by omega,by go_num,Xa,Ck,HA3,BF⟩
    case measure=>simp[intOf];omega
   ·have q:(x==0)=ρ:=by simpa using hx
    have q':(x !=0)=τ:=by simpa using hx
    have rK:Hid (jT (Vs.map vS,Es,G) L=(dv,x)):=qh (by
     have:=J7 HA.out Ht.out (by rw[ZE.out];exact hx)
     rw[ZE.out] at this;exact this)
    have xK:=qh hx;have jk:=qh (BF.out.w _ _ _ HZ6.out Ng.out (by decide) (by decide) (by decide));have z0:=jk.out.cell (i:=0) rfl;have z1:=jk.out.cell (i:=1) rfl;have z2:=jk.out.cell (i:=2) rfl;have y0_:=jk.out.free 0;have y1_:=jk.out.free 1;have y2_:=jk.out.free 2;clear hx hd3 BF;go_wp2;exact pq rfl b1 rfl (((jk.out.set_ 0 (γ ε 0 0)).set_ 1 (γ ε 0 0)).set_ 2 (γ ε 0 0)) Tryz.underlying28 rfl (by kernel_rfl) _ rfl rfl (by rw[rK.out];exact⟨(((bB.out.setCell (p:=⟨b1,0,ε⟩) L1.out (γ ε 0 0)).setCell (p:=⟨b1,1,ε⟩) L1.out (γ ε 0 0)).setCell (p:=⟨b1,2,ε⟩) L1.out (γ ε 0 0)),.inr ⟨xK.out,rfl⟩⟩)
  ·obtain rfl:j=pn:=by omega
   have rK:Hid (jT (Vs.map vS,Es,G) L=((Vq.map vS,SF,Gq),0)):=qh (by
    have:=HA.out
    rw[List.drop_of_length_le (by omega)] at this;exact this)
   have s0:=HT.out.s.cell (i:=0) rfl;have s1:=HT.out.s.cell (i:=1) rfl;have s2:=HT.out.s.cell (i:=2) rfl;have ng:g≠b1:=fun e=>Ng.out e.symm
   have z0:=Mf.out.cell (i:=0) rfl;have z1:=Mf.out.cell (i:=1) rfl;have z2:=Mf.out.cell (i:=2) rfl;have y0_:=Mf.out.free 0;have y1_:=Mf.out.free 1;have y2_:=Mf.out.free 2;have HSo:=qh (((HT.out.so.cellT Mf.out 0 (γ A n c)).cellT (Mf.out.set_ 0 (γ A n c)) 1 (γ B m k)).cellT ((Mf.out.set_ 0 (γ A n c)).set_ 1 (γ B m k)) 2 (γ C r rc));clear Ll;go_wp2;exact pq rfl b1 rfl (((Mf.out.set_ 0 (γ A n c)).set_ 1 (γ B m k)).set_ 2 (γ C r rc)) Tryz.underlying28 rfl (by kernel_rfl) _ rfl rfl (by rw[rK.out];exact⟨(((HT.out.below.setCell (p:=⟨b1,0,ε⟩) L1.out (γ A n c)).setCell (p:=⟨b1,1,ε⟩) L1.out (γ B m k)).setCell (p:=⟨b1,2,ε⟩) L1.out (γ C r rc)),.inl ⟨rfl,A,n,c,Vq,B,m,k,SF,C,r,rc,Gq,rfl,HSo.out,rfl⟩⟩)
end
theorem MN {S:SS} {o:dR} (h:¬(bQ S o).2=0):(bQ S o).1=dv:=by
 revert h;unfold bQ og oc fO jK dJ gU setS
 repeat' (first|split|(intro h;first|rfl|exact absurd rfl h)|dsimp only)
theorem RX (S:SS) (o:dR):jT S [o]=bQ S o:=by
 show(if (bQ S o).2=0 then((bQ S o).1,0) else(dv,(bQ S o).2))=_
 by_cases h:(bQ S o).2=0
 ·rw[if_pos h];exact Prod.ext rfl h.symm
 ·rw[if_neg h];exact Prod.ext (MN h).symm rfl
theorem mh.lo_ {W:ο} {lo lo':Nat} {A:Option Κ} {n c:Nat} {Vs:List VC} {B:Option Κ} {m k:Nat} {Es:List EC} {C:Option Κ} {r rc:Nat} {G:List Gn} (h:mh W lo A n c Vs B m k Es C r rc G) (hl:lo'≤lo):mh W lo' A n c Vs B m k Es C r rc G:=
 ⟨sM h.v hl,sM h.e hl,h.rg,sM h.gn hl⟩
theorem mh.dg {W:ο} {lo:Nat} {A:Option Κ} {n c:Nat} {Vs:List VC} {B:Option Κ} {m k:Nat} {Es:List EC} {C:Option Κ} {r rc:Nat} {G:List Gn} (h:mh W lo A n c Vs B m k Es C r rc G):bz W A n c Vs B m k Es:=
 ⟨aK h.v,aK h.e,fun x hx=>⟨(h.rg x hx).1,(h.rg x hx).2.1⟩⟩
theorem zB:∀{L:List dR},fY L=0→∀o∈L,iu o=0
 |[],_,_,ho=>by cases ho
 |u::L,h,o,ho=>by
  have h1:(if iu u=0 then fY L else iu u)=0:=h
  by_cases q:iu u=0
  ·rw[if_pos q] at h1;rcases Η.1 ho with rfl|ho
   ·exact q
   ·exact zB h1 o ho
  ·rw[if_neg q] at h1;exact absurd h1 q
theorem M1 {L:List dR} (h:pB L=0):∀o∈L,iu o=0:=by
 unfold pB at h;split at h
 ·exact absurd h (by decide)
 ·exact zB h
theorem xd (o:dR):ah ak [o]=ak o:=by simp[ah]
section
variable {W:ο} {A:Option Κ} {n c:Nat} {Vs:List VC} {B:Option Κ} {m k:Nat} {Es:List EC} {C:Option Κ} {r rc:Nat} {G:List Gn}
theorem pd (h:bz W A n c Vs B m k Es) (hg:bg W W.heap.size 6 C r rc (ah cZ G)) (hS:gD (Vs.map vS,Es,G)) (PA:Option Κ) (pn pc:Nat) (L:List dR) (hL:bg W W.heap.size 20 PA pn pc (ah ak L)) (ti:pn≤maxLen):
 Ζ η 18 #[φ #[γ A n c,γ B m k,γ C r rc],φ #[γ PA pn pc]] W (wZ W (la (Vs.map vS,Es,G) L)):=by
 have wN:L.length=pn:=hL.rlen eB (by decide);have HM:Hid (∀X,σ W.heap.size W X→Ζ η 54 #[φ #[γ PA pn pc]] X fun e w'=>e=.returned (J (pB L))∧σ X.heap.size X w'):=qh (fun X hX=>Cp PA pn pc L X (hL.bl hX) ti)
 have HD:Hid (pB L=0→∀X,σ W.heap.size W X→Ζ η 44 #[φ #[γ A n c,γ B m k,γ C r rc],γ PA pn pc] X (wZ X (jT (Vs.map vS,Es,G) L))):=qh (fun h0 X hX=>by
  have h6:pn≤6:=by
   by_cases q:L.length<1∨6<L.length
   ·unfold pB at h0;rw[if_pos q] at h0;exact absurd h0 (by decide)
   ·omega
  exact DU (h.below hX) (hg.bl hX) hS PA pn pc L (hL.bl hX) (by omega) (M1 h0))
 clear h hg hS hL ti wN;go_enter Tryz.func18,Tryz.ntmps18;go_upto_region 1 with fail
 obtain⟨W0,b0,b1,b2,bO,bp,dE,jc,aQ,aL,aZ,bw,-,-,oa,-,iP,-,eI,uW,RA,tU⟩:=Bs W 28 [γ A n c,γ B m k,γ C r rc] 49 [γ PA pn pc] 28 [γ ε 0 0,γ ε 0 0,γ ε 0 0];rw[bO,jc,dE,bp];clear bO bp dE jc;have x1:=aL.out.cell (i:=0) rfl;obtain⟨x,gx⟩:=aB (pB L);rw[gx] at HM HD;have GX:=qh gx;clear gx
 go_upto_region 2 with (first
  |(go_at_call 54
    refine(HM.out _ bw.out).mono ?_
    rintro e w2 ⟨rfl,aP⟩;have bG:=qh (ag bw.out aP);have fk:=qh (aQ.out.bl aP);have mZ:=qh (aL.out.bl aP);have rG:=qh (aZ.out.bl aP);clear aP x1 aQ aL aZ bw HM))
 by_cases hx:x=0
 ·subst hx;have HR:Hid (la (Vs.map vS,Es,G) L=jT (Vs.map vS,Es,G) L):=qh (by unfold la;rw[if_pos GX.out]);have xN:=qh (HD.out rfl _ bG.out);have x0:=fk.out.cell (i:=0) rfl;have x1:=fk.out.cell (i:=1) rfl;have x2:=fk.out.cell (i:=2) rfl;have x3:=mZ.out.cell (i:=0) rfl;clear GX HD;go_wp2_with fail
  refine xN.out.mono ?_;clear x0 x1 x2 x3;rintro e w3 ⟨bA,h3⟩;have bB:=qh (ag bG.out bA);have jk:=qh (rG.out.bl bA);have z0:=jk.out.cell (i:=0) rfl;have MS:=jk.out.free 0;have z1:=jk.out.cell (i:=1) rfl;have Ld:=jk.out.free 1;have z2:=jk.out.cell (i:=2) rfl;have Mt:=jk.out.free 2;rcases h3 with⟨hx,A',n',c',V',B',m',k',E',C',r',iv,G',rfl,u6,AQ⟩|⟨hx,rfl⟩
  ·have gE:=qh (u6.lo_ (lo':=W.heap.size) bG.out.size);have sO:=qh AQ;have cF:=qh hx;clear u6 AQ hx bA;go_wp2;exact pq rfl b2 rfl (((jk.out.set_ 0 (γ A' n' c')).set_ 1 (γ B' m' k')).set_ 2 (γ C' r' iv)) Tryz.underlying28 rfl (by kernel_rfl) _ rfl rfl (by rw[HR.out];exact⟨(((bB.out.setCell (p:=⟨b2,0,ε⟩) eI.out (γ A' n' c')).setCell (p:=⟨b2,1,ε⟩) eI.out (γ B' m' k')).setCell (p:=⟨b2,2,ε⟩) eI.out (γ C' r' iv)),.inl ⟨cF.out,A',n',c',V',B',m',k',E',C',r',iv,G',rfl,(((gE.out.cellT jk.out 0 (γ A' n' c')).cellT (jk.out.set_ 0 (γ A' n' c')) 1 (γ B' m' k')).cellT ((jk.out.set_ 0 (γ A' n' c')).set_ 1 (γ B' m' k')) 2 (γ C' r' iv)),sO.out⟩⟩)
  ·have cF:=qh hx;obtain⟨x,gx⟩:=aB ((jT (Vs.map vS,Es,G) L).2);rw[gx];have GX:=qh gx;clear hx bA gx;go_wp2;exact pq rfl b2 rfl (((jk.out.set_ 0 (γ ε 0 0)).set_ 1 (γ ε 0 0)).set_ 2 (γ ε 0 0)) Tryz.underlying28 rfl (by kernel_rfl) _ rfl rfl (by rw[HR.out];exact⟨(((bB.out.setCell (p:=⟨b2,0,ε⟩) eI.out (γ ε 0 0)).setCell (p:=⟨b2,1,ε⟩) eI.out (γ ε 0 0)).setCell (p:=⟨b2,2,ε⟩) eI.out (γ ε 0 0)),.inr ⟨cF.out,by rw[GX.out];rfl⟩⟩)
 ·have q:(x==0)=ρ:=by simpa using hx
  have q':(x !=0)=τ:=by simpa using hx
  have HR:Hid (la (Vs.map vS,Es,G) L=(dv,x)):=qh (by unfold la;rw[GX.out,if_neg hx]);have HX:=qh hx;have z0:=rG.out.cell (i:=0) rfl;have MS:=rG.out.free 0;have z1:=rG.out.cell (i:=1) rfl;have Ld:=rG.out.free 1;have z2:=rG.out.cell (i:=2) rfl;have Mt:=rG.out.free 2;clear hx GX HD;go_wp2;exact pq rfl b2 rfl (((rG.out.set_ 0 (γ ε 0 0)).set_ 1 (γ ε 0 0)).set_ 2 (γ ε 0 0)) Tryz.underlying28 rfl (by kernel_rfl) _ rfl rfl (by rw[HR.out];exact⟨(((bG.out.setCell (p:=⟨b2,0,ε⟩) eI.out (γ ε 0 0)).setCell (p:=⟨b2,1,ε⟩) eI.out (γ ε 0 0)).setCell (p:=⟨b2,2,ε⟩) eI.out (γ ε 0 0)),.inr ⟨HX.out,rfl⟩⟩)
theorem JK (h:bz W A n c Vs B m k Es) (hg:bg W W.heap.size 6 C r rc (ah cZ G)) (hS:gD (Vs.map vS,Es,G)) (o:dR):
 Ζ η 14 #[φ #[γ A n c,γ B m k,γ C r rc],φ (ak o).toArray] W (wZ W (yi (Vs.map vS,Es,G) o)):=by
 have HD:Hid (iu o=0→∀X,σ W.heap.size W X→∀g,Whole X g 36 (ak o)→Ζ η 44 #[φ #[γ A n c,γ B m k,γ C r rc],γ (ζ ⟨g,0,ε⟩) 1 1] X (wZ X (bQ (Vs.map vS,Es,G) o))):=qh (fun h0 X hX g hw=>by
  rw[←RX];exact DU (h.below hX) (hg.bl hX) hS _ 1 1 [o] (by rw[xd];exact bg.of_whole hw rfl) (by decide) (fun u hu=>by obtain rfl:=List.mem_singleton.1 hu;exact h0))
 clear h hg hS;go_enter Tryz.func14,Tryz.ntmps14;go_upto_region 1 with fail
 obtain⟨W0,b0,b1,b2,bO,bp,dE,jc,aQ,aL,aZ,bw,-,-,oa,-,iP,-,eI,uW,RA,tU⟩:=Bs W 28 [γ A n c,γ B m k,γ C r rc] 36 (ak o) 28 [γ ε 0 0,γ ε 0 0,γ ε 0 0];rw[bO,jc,dE,bp];clear bO bp dE jc;obtain⟨x,gx⟩:=aB (iu o);have HM:Hid (∀X,Ζ η 43 #[φ (ak o).toArray] X fun e w'=>e=.returned (J x)∧σ X.heap.size X w'):=qh (fun X=>gx▸yx o X);rw[gx] at HD;have GX:=qh gx;clear gx;refine Jam ?_;refine eJ (ζ 7) rfl (by rfl) 36 (.tmp 3) rfl b1 rfl 36 (ak o) _ aL.out Tryz.underlying36 rfl (by kernel_rfl) ?_;simp only[ξ,aw,ar,aq]
 go_upto_region 2 with (first
  |(go_at_call 43
    refine(HM.out _).mono ?_
    rintro e w2 ⟨rfl,aP⟩;have bG:=qh (ag bw.out aP);have fk:=qh (aQ.out.bl aP);have mZ:=qh (aL.out.bl aP);have rG:=qh (aZ.out.bl aP);clear aP aQ aL aZ bw HM))
 by_cases hx:x=0
 ·subst hx;have HR:Hid (yi (Vs.map vS,Es,G) o=bQ (Vs.map vS,Es,G) o):=qh (by unfold yi;rw[if_pos GX.out]);clear GX;go_upto_region 4 with fail
  refine Jam ?_;refine eJ (ζ 13) rfl (by rfl) 28 (.tmp 2) rfl b0 rfl 28 [γ A n c,γ B m k,γ C r rc] _ fk.out Tryz.underlying28 rfl (by kernel_rfl) ?_;simp only[ξ,aw,ar,aq];refine eJ (ζ 14) rfl (by rfl) 36 (.tmp 3) rfl b1 rfl 36 (ak o) _ mZ.out Tryz.underlying36 rfl (by kernel_rfl) ?_;simp only[ξ,aw,ar,aq];refine gS (ζ 15) rfl (by rfl) 47 36 1 #[(0,.tmp 14)] (by rfl) Tryz.underlying47 (ak o).toArray (by kernel_rfl) ?_;simp only[ξ,aw,ar,aq];have xN:=qh (HD.out rfl (w2.alloc (δ (ak o).toArray 36)) (aI bG.out _) _ (Whole.new_ _ _ _));have nK:=qh (rG.out.al (δ (ak o).toArray 36));have Vb:=qh (aI bG.out (δ (ak o).toArray 36));obtain⟨w4,NP⟩:=aB (w2.alloc (δ (ak o).toArray 36));rw[NP] at xN nK Vb ⊢;clear NP HD;go_wp2_with fail
  refine xN.out.mono ?_;rintro e w3 ⟨bA,h3⟩;have bB:=qh (ag Vb.out bA);have jk:=qh (nK.out.bl bA);have z0:=jk.out.cell (i:=0) rfl;have MS:=jk.out.free 0;have z1:=jk.out.cell (i:=1) rfl;have Ld:=jk.out.free 1;have z2:=jk.out.cell (i:=2) rfl;have Mt:=jk.out.free 2;rcases h3 with⟨hx,A',n',c',V',B',m',k',E',C',r',iv,G',rfl,u6,AQ⟩|⟨hx,rfl⟩
  ·have gE:=qh (u6.lo_ (lo':=W.heap.size) Vb.out.size);have sO:=qh AQ;have cF:=qh hx;clear u6 AQ hx bA;go_wp2;exact pq rfl b2 rfl (((jk.out.set_ 0 (γ A' n' c')).set_ 1 (γ B' m' k')).set_ 2 (γ C' r' iv)) Tryz.underlying28 rfl (by kernel_rfl) _ rfl rfl (by rw[HR.out];exact⟨(((bB.out.setCell (p:=⟨b2,0,ε⟩) eI.out (γ A' n' c')).setCell (p:=⟨b2,1,ε⟩) eI.out (γ B' m' k')).setCell (p:=⟨b2,2,ε⟩) eI.out (γ C' r' iv)),.inl ⟨cF.out,A',n',c',V',B',m',k',E',C',r',iv,G',rfl,(((gE.out.cellT jk.out 0 (γ A' n' c')).cellT (jk.out.set_ 0 (γ A' n' c')) 1 (γ B' m' k')).cellT ((jk.out.set_ 0 (γ A' n' c')).set_ 1 (γ B' m' k')) 2 (γ C' r' iv)),sO.out⟩⟩)
  ·have cF:=qh hx;obtain⟨x,gx⟩:=aB ((bQ (Vs.map vS,Es,G) o).2);rw[gx];have GX:=qh gx;clear hx bA gx;go_wp2;exact pq rfl b2 rfl (((jk.out.set_ 0 (γ ε 0 0)).set_ 1 (γ ε 0 0)).set_ 2 (γ ε 0 0)) Tryz.underlying28 rfl (by kernel_rfl) _ rfl rfl (by rw[HR.out];exact⟨(((bB.out.setCell (p:=⟨b2,0,ε⟩) eI.out (γ ε 0 0)).setCell (p:=⟨b2,1,ε⟩) eI.out (γ ε 0 0)).setCell (p:=⟨b2,2,ε⟩) eI.out (γ ε 0 0)),.inr ⟨cF.out,by rw[GX.out];rfl⟩⟩)
 ·have q:(x==0)=ρ:=by simpa using hx
  have q':(x !=0)=τ:=by simpa using hx
  have HR:Hid (yi (Vs.map vS,Es,G) o=(dv,x)):=qh (by unfold yi;rw[GX.out,if_neg hx]);have HX:=qh hx;have z0:=rG.out.cell (i:=0) rfl;have MS:=rG.out.free 0;have z1:=rG.out.cell (i:=1) rfl;have Ld:=rG.out.free 1;have z2:=rG.out.cell (i:=2) rfl;have Mt:=rG.out.free 2;clear hx GX HD;go_wp2;exact pq rfl b2 rfl (((rG.out.set_ 0 (γ ε 0 0)).set_ 1 (γ ε 0 0)).set_ 2 (γ ε 0 0)) Tryz.underlying28 rfl (by kernel_rfl) _ rfl rfl (by rw[HR.out];exact⟨(((bG.out.setCell (p:=⟨b2,0,ε⟩) eI.out (γ ε 0 0)).setCell (p:=⟨b2,1,ε⟩) eI.out (γ ε 0 0)).setCell (p:=⟨b2,2,ε⟩) eI.out (γ ε 0 0)),.inr ⟨HX.out,rfl⟩⟩)
end
section
variable {W:ο} {A:Option Κ} {n c:Nat} {Vs:List VC} {B:Option Κ} {m k:Nat} {Es:List EC} {C:Option Κ} {r rc:Nat} {G:List Gn}
theorem uG (W:ο):Ζ η 17 #[] W fun e w'=>e=.returned (φ #[γ ε 0 0,γ ε 0 0,γ ε 0 0])∧σ W.heap.size W w':=by
 go_enter Tryz.func17,Tryz.ntmps17;go_wp2;exact dO rfl W.heap.size rfl (Whole.new_ W 28 [γ ε 0 0,γ ε 0 0,γ ε 0 0]) Tryz.underlying28 rfl (by kernel_rfl) rfl ⟨rfl,az _ _⟩
def Y8 (W:ο) (S:SS) (e:Ending) (w':ο):Prop:=
 σ W.heap.size W w'∧∃A n c Vs B m k Es C r rc G,e=.returned (φ #[γ A n c,γ B m k,γ C r rc])∧mh w' W.heap.size A n c Vs B m k Es C r rc G∧(Vs.map vS,Es,G)=S
theorem JA (h:bz W A n c Vs B m k Es) (hg:bg W W.heap.size 6 C r rc (ah cZ G)) (hS:gD (Vs.map vS,Es,G)) (PA:Option Κ) (pn pc:Nat) (L:List dR) (hL:bg W W.heap.size 20 PA pn pc (ah ak L)) (ti:pn≤maxLen):
 Ζ η 21 #[φ #[γ A n c,γ B m k,γ C r rc],φ #[γ PA pn pc]] W (Y8 W (tw (Vs.map vS,Es,G) L)):=by
 have QV:Vs.length=n:=h.v.rlen aS (by decide);have Fb:Es.length=m:=h.e.rlen bM (by decide);have Fm:G.length=r:=hg.rlen bT (by decide);have hn:n≤1000:=by have:=hS.v24;rw[Ρ] at this;omega
 have hm:m≤1000:=by have h1:Es.length≤40:=hS.e40;omega
 have hr:r≤1000:=by have h1:G.length≤400:=hS.g400;omega
 have fy:∀x∈Vs,x.2.1.2.1≤1000000:=fun x hx=>by
  have h1:=hS.short (vS x) (Α.2 ⟨x,hx,rfl⟩);have h2:x.2.1.2.2.2.length=x.2.1.2.1:=(h.r x hx).2.dlen;have h3:x.2.1.2.2.2.length≤80:=h1;omega
 have HC:Hid (∀X,σ W.heap.size W X→Ζ η 55 #[φ #[γ A n c,γ B m k,γ C r rc]] X fun e w'=>∃A' c' B' k' C' iv Ws,e=.returned (φ #[γ A' n c',γ B' m k',γ C' r iv])∧mh w' X.heap.size A' n c' Ws B' m k' Es C' r iv G∧Ws.map vS=Vs.map vS∧σ X.heap.size X w'):=qh (fun X hX=>ud (h.below hX) (hg.bl hX) hn hm hr fy);have HA:Hid (∀X,σ W.heap.size W X→Ζ η 18 #[φ #[γ A n c,γ B m k,γ C r rc],φ #[γ PA pn pc]] X (wZ X (la (Vs.map vS,Es,G) L))):=qh (fun X hX=>pd (h.below hX) (hg.bl hX) hS PA pn pc L (hL.bl hX) ti);obtain⟨⟨T,x⟩,gk⟩:∃z,la (Vs.map vS,Es,G) L=z:=⟨_,rfl⟩
 rw[gk] at HA;have HT:Hid (tw (Vs.map vS,Es,G) L=if x=0 then T else(Vs.map vS,Es,G)):=qh (by unfold tw;rw[gk]);clear h hg hS hL ti QV Fb Fm hn hm hr fy gk;go_enter Tryz.func21,Tryz.ntmps21;go_upto_region 1 with fail
 obtain⟨W0,b0,b1,b2,bO,bp,dE,jc,aQ,aL,aZ,bw,-,-,oa,-,iP,-,eI,uW,RA,tU⟩:=Bs W 28 [γ A n c,γ B m k,γ C r rc] 49 [γ PA pn pc] 28 [γ ε 0 0,γ ε 0 0,γ ε 0 0];rw[bO,jc,dE,bp];clear bO bp dE jc;have x0:=aQ.out.cell (i:=0) rfl;have x1:=aQ.out.cell (i:=1) rfl;have x2:=aQ.out.cell (i:=2) rfl;have x3:=aL.out.cell (i:=0) rfl;go_wp2_with fail
 refine(HA.out _ bw.out).mono ?_
 clear x0 x1 x2 x3;rintro e w3 ⟨bA,h3⟩;have bB:=qh (ag bw.out bA);have fk:=qh (aQ.out.bl bA);have rG:=qh (aZ.out.bl bA);rcases h3 with⟨hx,A',n',c',V',B',m',k',E',C',r',iv,G',rfl,u6,AQ⟩|⟨hx,rfl⟩
 ·obtain rfl:x=0:=hx;have gE:=qh ((u6.lo_ (lo':=W.heap.size) bw.out.size).up (az w3 (δ #[γ A' n' c',γ B' m' k',γ C' r' iv] 28)));have sO:Hid ((V'.map vS,E',G')=tw (Vs.map vS,Es,G) L):=qh (by rw[HT.out,if_pos rfl];exact AQ);clear HT;have jk:=qh (rG.out.al (δ #[γ A' n' c',γ B' m' k',γ C' r' iv] 28));have KL:=qh (Whole.new_ w3 28 [γ A' n' c',γ B' m' k',γ C' r' iv]);have kC:=qh (aI bB.out (δ #[γ A' n' c',γ B' m' k',γ C' r' iv] 28));clear u6 AQ bA aQ aL aZ fk bw;go_upto_region 4 with fail
  obtain⟨w4,NP⟩:=aB (w3.alloc (δ #[γ A' n' c',γ B' m' k',γ C' r' iv] 28));obtain⟨b4,BJ⟩:=aB w3.heap.size;rw[NP] at gE jk KL kC ⊢;rw[BJ] at KL ⊢;clear NP BJ;have z0:=jk.out.cell (i:=0) rfl;have MS:=jk.out.free 0;have z1:=jk.out.cell (i:=1) rfl;have Ld:=jk.out.free 1;have z2:=jk.out.cell (i:=2) rfl;have Mt:=jk.out.free 2;have n0:=KL.out.cell (i:=0) rfl;have n1:=KL.out.cell (i:=1) rfl;have n2:=KL.out.cell (i:=2) rfl;go_wp2;exact dO rfl b2 rfl (((jk.out.set_ 0 (γ A' n' c')).set_ 1 (γ B' m' k')).set_ 2 (γ C' r' iv)) Tryz.underlying28 rfl (by kernel_rfl) rfl ⟨(((kC.out.setCell (p:=⟨b2,0,ε⟩) eI.out (γ A' n' c')).setCell (p:=⟨b2,1,ε⟩) eI.out (γ B' m' k')).setCell (p:=⟨b2,2,ε⟩) eI.out (γ C' r' iv)),A',n',c',V',B',m',k',E',C',r',iv,G',rfl,(((gE.out.cellT jk.out 0 (γ A' n' c')).cellT (jk.out.set_ 0 (γ A' n' c')) 1 (γ B' m' k')).cellT ((jk.out.set_ 0 (γ A' n' c')).set_ 1 (γ B' m' k')) 2 (γ C' r' iv)),sO.out⟩
 ·have q:(x==0)=ρ:=by simpa using hx
  have q':(x !=0)=τ:=by simpa using hx
  have xK:Hid (tw (Vs.map vS,Es,G) L=(Vs.map vS,Es,G)):=qh (by rw[HT.out,if_neg hx]);clear HT;have jk:=qh (rG.out.al (δ #[γ ε 0 0,γ ε 0 0,γ ε 0 0] 28));have AJ:=qh (fk.out.al (δ #[γ ε 0 0,γ ε 0 0,γ ε 0 0] 28));have kC:=qh (aI bB.out (δ #[γ ε 0 0,γ ε 0 0,γ ε 0 0] 28));clear hx bA aQ aL aZ fk bw;go_upto_region 3 with fail
  obtain⟨w4,NP⟩:=aB (w3.alloc (δ #[γ ε 0 0,γ ε 0 0,γ ε 0 0] 28));rw[NP] at jk AJ kC ⊢;clear NP;have x0:=AJ.out.cell (i:=0) rfl;have x1:=AJ.out.cell (i:=1) rfl;have x2:=AJ.out.cell (i:=2) rfl;go_wp2_with fail
  refine(HC.out _ kC.out).mono ?_
  rintro e w5 ⟨A',c',B',k',C',iv,Ws,rfl,SD,S1,fP⟩;have l6:=qh (SD.lo_ (lo':=W.heap.size) kC.out.size);have Sn:=qh S1;have kF:=qh (ag kC.out fP);have DF:=qh (jk.out.bl fP);clear x0 x1 x2 SD S1 fP AJ jk kC;have z0:=DF.out.cell (i:=0) rfl;have MS:=DF.out.free 0;have z1:=DF.out.cell (i:=1) rfl;have Ld:=DF.out.free 1;have z2:=DF.out.cell (i:=2) rfl;have Mt:=DF.out.free 2;go_wp2;exact dO rfl b2 rfl (((DF.out.set_ 0 (γ A' n c')).set_ 1 (γ B' m k')).set_ 2 (γ C' r iv)) Tryz.underlying28 rfl (by kernel_rfl) rfl ⟨(((kF.out.setCell (p:=⟨b2,0,ε⟩) eI.out (γ A' n c')).setCell (p:=⟨b2,1,ε⟩) eI.out (γ B' m k')).setCell (p:=⟨b2,2,ε⟩) eI.out (γ C' r iv)),A',n,c',Ws,B',m,k',Es,C',r,iv,G,rfl,(((l6.out.cellT DF.out 0 (γ A' n c')).cellT (DF.out.set_ 0 (γ A' n c')) 1 (γ B' m k')).cellT ((DF.out.set_ 0 (γ A' n c')).set_ 1 (γ B' m k')) 2 (γ C' r iv)),by rw[xK.out,Sn.out]⟩
end
theorem za (A:Option Κ) (n c:Nat) (L:List dR) (W:ο) (h:bg W W.heap.size 20 A n c (ah ak L)) (hn:n≤maxLen):
 Ζ η 19 #[φ #[γ A n c]] W fun e w'=>∃n',e=.returned (φ #[γ A n' c])∧bg w' w'.heap.size 20 A n' c (ah ak (L.take 8))∧n'≤8∧σ W.heap.size W w':=by
 have hl:L.length=n:=h.rlen eB (by decide);have hle:=h.le;have hH:=qh h;clear h;go_enter Tryz.func19,Tryz.ntmps19;go_upto_region 1 with fail
 obtain⟨W0,b0,b1,bO,bp,dE,aQ,aL,bw,-,-,oa,-,iP,uW⟩:=wT W 49 [γ A n c] 49 [γ ε 0 0];rw[bO,dE,bp];clear bO bp dE;have x0:=aQ.out.cell (i:=0) rfl
 by_cases h8:8<n
 ·have q1:(8:Int)<(n:Int):=by omega
  have h8c:8≤c:=by omega
  have HR:Hid (bg W W.heap.size 20 A 8 c (ah ak (L.take 8))):=qh (by
   have:=hH.out.take_ 8 (by omega)
   rwa [←iz ak eB] at this)
  clear hH hl hle;go_upto_region 2 with fail
  refine Jam ?_;refine a7 (v:=?_) (ζ 7) rfl (by rfl) ?_ ?_;rotate_left
  ·go_simp;(try with_reducible rfl)
  simp only[ξ,aw,ar,aq];refine a7 (v:=?_) (ζ 8) rfl (by rfl) ?_ ?_;rotate_left
  ·go_simp;(try with_reducible rfl)
  simp only[ξ,aw,ar,aq];refine a7 (ζ 9) rfl (by rfl) (uL 47 36 (.tmp 8) (.const (J 8)) rfl Tryz.underlying47 (s:=20) (by kernel_rfl) rfl (k:=8) rfl h8c) ?_;simp only[ξ,aw,ar,aq];have z0:=aL.out.cell (i:=0) rfl;have y0:=aL.out.free 0;go_wp2;have hb:=bw.out.setCell (p:=⟨b1,0,ε⟩) iP.out (γ A 8 c);exact dO rfl b1 rfl (aL.out.set_ 0 (γ A 8 c)) Tryz.underlying49 rfl (by kernel_rfl) rfl ⟨8,rfl,HR.out.bl hb,by decide,hb⟩
 ·have q1:¬(8:Int)<(n:Int):=by omega
  have HR:Hid (bg W W.heap.size 20 A n c (ah ak (L.take 8))):=qh (by rw[Ι (by omega)];exact hH.out);clear hH hl hle;have z0:=aL.out.cell (i:=0) rfl;have y0:=aL.out.free 0;have n01:=uW.out;go_wp2;have hb:=bw.out.setCell (p:=⟨b1,0,ε⟩) iP.out (γ A n c);exact dO rfl b1 rfl (aL.out.set_ 0 (γ A n c)) Tryz.underlying49 rfl (by kernel_rfl) rfl ⟨n,rfl,HR.out.bl hb,by omega,hb⟩
theorem Kw {G:List Gn} {j:Nat} {x:Gn} (h:cT (G.take (j+1))) (hx:G[j+1]? =ζ x) {y:Gn} (hy:G[j]? =ζ y) (hl:cH y x<0):cT (G.take (j+2)):=by
 rw[Jbc,hx];refine vM _ _ h ?_;unfold S2
 have:(G.take (j+1)).getLast? =ζ y:=by
  rw[Jbc,hy];simp
 rw[this];exact decide_eq_true hl
def LI:List Gn→Bool
 |[]=>τ
 |[_]=>τ
 |y::z::G=>decide (cH y z<0) && LI (z::G)
theorem pG:∀{G:List Gn},LI G=τ↔cT G
 |[]=>⟨fun _=>trivial,fun _=>rfl⟩
 |[_]=>⟨fun _=>trivial,fun _=>rfl⟩
 |y::z::G=>by
  show(decide (cH y z<0) && LI (z::G))=τ↔cH y z<0∧cT (z::G)
  rw[Jar,decide_eq_true_eq,pG]
theorem JY {G:List Gn} {j:Nat} {x y:Gn} (hx:G[j+1]? =ζ x) (hy:G[j]? =ζ y) (hl:¬cH y x<0):¬cT G:=fun h=>hl (K9 h hy hx)
theorem sr (A:Option Κ) (n c:Nat) (G:List Gn) (W:ο) (h:bg W W.heap.size 6 A n c (ah cZ G)) (hn:n≤maxLen):
 Ζ η 24 #[γ A n c] W fun e w'=>e=.returned (Β (LI G && decide (n≤400)))∧σ W.heap.size W w':=by
 have hl:G.length=n:=h.rlen bT (by decide);have H:=qh h;have HL:=qh hl;have bw:Hid (σ W.heap.size W W):=qh (Θ _ _)
 have D7:Hid (cT (G.take 1)):=qh (by
  match G with
  |[]=>trivial
  |[_]=>trivial
  |_::_::_=>trivial)
 unfold maxLen at hn;obtain⟨b,gb⟩:=aB ((LI G && decide (n≤400)));have GB:=qh gb;rw[gb];clear h hl gb;go_enter Tryz.func24,Tryz.ntmps24;go_wp2;go_loopw [3] (fun vi wr=>∃j:Nat,vi=J (j+1:Nat)∧(j+1≤n∨j=0)∧Hid (σ W.heap.size W wr)∧Hid (cT (G.take (j+1)))) (fun vi _=>n+1 - (intOf vi).toNat)
 case atStart=>exact⟨0,rfl,.inr rfl,bw,D7⟩
 case round=>
  clear bw D7;obtain⟨j,rfl,hj,nf,HR⟩:=hrel;obtain⟨j1,WJ⟩:=aB (j+1);rw[WJ] at hj ⊢;have GJ:=qh WJ
  by_cases dz:j1<n
  ·have KH:(j1:Int)<(n:Int):=by omega
   have Rj:IntKind.i64.wrap ((j1:Int) - 1)=(j:Int):=by rw[IntKind.wrap_i64];omega
   have hi3:(j:Int)<(n:Int):=by omega
   obtain⟨x,hx⟩:∃x,G[j1]? =ζ x:=⟨_,θ (by have:=HL.out;omega)⟩
   obtain⟨y,hy⟩:∃y,G[j]? =ζ y:=⟨_,θ (by have:=HL.out;omega)⟩
   obtain⟨bb,off,rfl,aY,a8⟩:=H.out.place bT (by decide) (by omega);have s6:∀w',Kept aO wr.drew w'→w'.cell? ⟨bb,off+j1*6,ε⟩=ζ (J x.1.1):=fun w' h=>h.nil_cell ((nf.out.cell (p:=⟨bb,off+j1*6,ε⟩) aY).trans (by have q:=a8 j1 _ hx 0 _ rfl;simp only[Ν,Jac] at q;exact q))
   have sX:∀w',Kept aO wr.drew w'→w'.cell? ⟨bb,off+j1*6+1,ε⟩=ζ (J x.1.2.1):=fun w' h=>h.nil_cell ((nf.out.cell (p:=⟨bb,off+j1*6+1,ε⟩) aY).trans (by have q:=a8 j1 _ hx 1 _ rfl;simp only[Ν,Jac] at q;exact q))
   have Yd:∀w',Kept aO wr.drew w'→w'.cell? ⟨bb,off+j1*6+2,ε⟩=ζ (J x.1.2.2):=fun w' h=>h.nil_cell ((nf.out.cell (p:=⟨bb,off+j1*6+2,ε⟩) aY).trans (by have q:=a8 j1 _ hx 2 _ rfl;simp only[Ν,Jac] at q;exact q))
   have ly0:∀w',Kept aO wr.drew w'→w'.cell? ⟨bb,off+j*6,ε⟩=ζ (J y.1.1):=fun w' h=>h.nil_cell ((nf.out.cell (p:=⟨bb,off+j*6,ε⟩) aY).trans (by have q:=a8 j _ hy 0 _ rfl;simp only[Ν,Jac] at q;exact q))
   have ly1:∀w',Kept aO wr.drew w'→w'.cell? ⟨bb,off+j*6+1,ε⟩=ζ (J y.1.2.1):=fun w' h=>h.nil_cell ((nf.out.cell (p:=⟨bb,off+j*6+1,ε⟩) aY).trans (by have q:=a8 j _ hy 1 _ rfl;simp only[Ν,Jac] at q;exact q))
   have ly2:∀w',Kept aO wr.drew w'→w'.cell? ⟨bb,off+j*6+2,ε⟩=ζ (J y.1.2.2):=fun w' h=>h.nil_cell ((nf.out.cell (p:=⟨bb,off+j*6+2,ε⟩) aY).trans (by have q:=a8 j _ hy 2 _ rfl;simp only[Ν,Jac] at q;exact q))
   have HX:=qh hx;have HY:=qh hy;obtain⟨o,go⟩:=aB (cH y x);have HO:Hid (∀X,Ζ η 56 #[φ #[J y.1.1,J y.1.2.1,J y.1.2.2],φ #[J x.1.1,J x.1.2.1,J x.1.2.2]] X fun e w'=>e=.returned (J o)∧σ X.heap.size X w'):=qh (fun X=>go▸oU y.1.1 y.1.2.1 y.1.2.2 x.1.1 x.1.2.1 x.1.2.2 X);have GO:=qh go;clear hx hy a8 aY go WJ;go_upto_region 4 with fail
   refine ay (aO) (by kernel_rfl) ?_;refine aa 0 ?_;refine aa 1 ?_;refine aa 2 ?_;refine aa 3 ?_;refine aa 4 ?_;refine aa 5 ?_;refine aa 6 ?_;refine aa 7 ?_;refine aa 8 ?_;refine aa 9 ?_;refine aa 10 ?_;refine cV 11 (hy:=by apply bP;rfl;rotate_left;intro w' aC;exact HO.out w';intro w';go_simp) (h:=?_);refine aa 12 ?_;refine aF (by kernel_rfl) ?_ _;intro w8 cg;have nV:=qh (ag (aN nf.out) cg);clear cg nf s6 sX Yd ly0 ly1 ly2
   by_cases ho:o<0
   ·have q:¬0≤o:=by omega
    have TS:Hid (cT (G.take (j1+1))):=qh (by
     have e:=GJ.out;subst e;exact Kw HR.out HX.out HY.out (by rw[GO.out];exact ho))
    clear HR;go_wp2;go_roundw
    case rel=>exact⟨j1,by go_num,.inl (by omega),nV,TS⟩
    case measure=>simp[intOf];omega
   ·have q:0≤o:=by omega
    have HF:Hid (b=ρ):=qh (by
     have e:=GJ.out;subst e;rw[←GB.out,Bool.eq_false_iff];intro h;rw[Jar,pG] at h;exact absurd h.1 (JY HX.out HY.out (by rw[GO.out];exact ho)))
    go_wp2;go_ret;have hF:=HF.out;exact⟨by rw[hF];rfl,nV.out⟩
  ·have KH:¬(j1:Int)<(n:Int):=by omega
   have HA:Hid (cT G):=qh (by
    have:=HR.out
    rwa [Ι (by have:=HL.out;omega)] at this)
   by_cases h4:n≤400
   ·have q:(n:Int)≤400:=by omega
    go_wp2;go_ret;have hF:b=τ:=by rw[←GB.out,pG.2 HA.out,decide_eq_true h4];rfl
    exact⟨by rw[hF];rfl,nf.out⟩
   ·have q:¬(n:Int)≤400:=by omega
    go_wp2;go_ret;have hF:b=ρ:=by rw[←GB.out,decide_eq_false h4,Bool.and_false]
    exact⟨by rw[hF];rfl,nf.out⟩
theorem MZ (x y:Gn) (W:ο):(binOp .neq 98 (φ (cZ x).toArray) (φ (cZ y).toArray)).run η W=.ok (Β (!decide (x=y))) W:=by
 obtain⟨⟨a1,a2,a3⟩,a4,a5,a6⟩:=x;obtain⟨⟨b1,b2,b3⟩,b4,b5,b6⟩:=y
 by_cases h1:a1=b1
 ·by_cases h2:a2=b2
  ·by_cases h3:a3=b3
   ·by_cases h4:a4=b4
    ·by_cases h5:a5=b5
     ·by_cases h6:a6=b6
      ·simp[go_sem,cZ,h1,h2,h3,h4,h5,h6]
      ·simp[go_sem,cZ,h1,h2,h3,h4,h5,h6]
     ·simp[go_sem,cZ,h1,h2,h3,h4,h5]
    ·simp[go_sem,cZ,h1,h2,h3,h4]
   ·simp[go_sem,cZ,h1,h2,h3]
  ·simp[go_sem,cZ,h1,h2]
 ·simp[go_sem,cZ,h1]
theorem F0 (A:Option Κ) (n c:Nat) (G:List Gn) (B:Option Κ) (m k:Nat) (H:List Gn) (W:ο) (h:bg W W.heap.size 6 A n c (ah cZ G)) (h':bg W W.heap.size 6 B m k (ah cZ H)) (hn:n≤1000000):
 Ζ η 53 #[γ A n c,γ B m k] W fun e w'=>e=.returned (Β (decide (G=H)))∧σ W.heap.size W w':=by
 have hl:G.length=n:=h.rlen bT (by decide);have Pw:H.length=m:=h'.rlen bT (by decide);obtain⟨b,gb⟩:=aB (decide (G=H));rw[gb];have Gi:=qh gb;have bw:Hid (σ W.heap.size W W):=qh (Θ _ _)
 by_cases Fu:n=m
 case neg=>
  have hF:b=ρ:=by
   rw[←gb];exact decide_eq_false (fun e=>Fu (by rw[←hl,←Pw,e]))
  have q:((n:Int) !=(m:Int))=τ:=by simp;omega
  have q':((n:Int)==(m:Int))=ρ:=by simp;omega
  clear h h' hl Pw gb Fu;go_enter Tryz.func53,Tryz.ntmps53;go_wp2;go_ret;exact⟨by rw[hF];rfl,bw.out⟩
 subst Fu;have HG:=qh h;have HH:=qh h';have HL:=qh hl;have HL':=qh Pw;have MF:Hid (G.take 0=H.take 0):=qh rfl;clear h h' hl Pw gb;go_enter Tryz.func53,Tryz.ntmps53;go_wp2;go_loopw [5] (fun vi wr=>∃j:Nat,j≤n∧vi=J (j:Int)∧Hid (σ W.heap.size W wr)∧Hid (G.take j=H.take j)) (fun vi _=>n - (intOf vi).toNat)
 case atStart=>exact⟨0,Jas _,rfl,bw,MF⟩
 case round=>
  clear bw MF;obtain⟨j,hj,rfl,nf,HI⟩:=hrel
  by_cases nT:j<n
  ·have KH:(j:Int)<(n:Int):=by omega
   obtain⟨x,hx⟩:∃x,G[j]? =ζ x:=⟨_,θ (by have:=HL.out;omega)⟩
   obtain⟨y,hy⟩:∃y,H[j]? =ζ y:=⟨_,θ (by have:=HL'.out;omega)⟩
   obtain⟨b1,o1,rfl,Yt,abb⟩:=HG.out.place bT (by decide) (by omega);obtain⟨b2,o2,rfl,ZI,aaC⟩:=HH.out.place bT (by decide) (by omega);have OE:Hid (∀w',Kept aO wr.drew w'→∀i u,(cZ x)[i]? =ζ u→w'.cell? ((⟨b1,o1+j*6,ε⟩:Κ).add i)=ζ u):=qh (fun w' hk i u hu=>hk.nil_cell ((nf.out.cell (by rw[en];exact Yt)).trans (abb j _ hx i u hu)));have ZP:Hid (∀w',Kept aO wr.drew w'→∀i u,(cZ y)[i]? =ζ u→w'.cell? ((⟨b2,o2+j*6,ε⟩:Κ).add i)=ζ u):=qh (fun w' hk i u hu=>hk.nil_cell ((nf.out.cell (by rw[en];exact ZI)).trans (aaC j _ hy i u hu)));have hq:=MZ x y;obtain⟨e,ge⟩:=aB (decide (x=y));rw[ge] at hq;have HXY:=qh ge;have HX:=qh hx;have HY:=qh hy;clear hx hy abb aaC Yt ZI ge;go_upto_region 6 with fail
   refine ay (aO) (by kernel_rfl) ?_;refine aa 0 ?_;refine aa 1 ?_;refine aa 2 ?_;refine cV 3 (hy:=nS (by rfl) 98 (.tmp 19) rfl ⟨b1,o1+j*6,ε⟩ rfl (cZ x) _ OE.out Tryz.underlying98 rfl (by kernel_rfl)) (h:=?_);refine aa 4 ?_;refine aa 5 ?_;refine aa 6 ?_;refine cV 7 (hy:=nS (by rfl) 98 (.tmp 23) rfl ⟨b2,o2+j*6,ε⟩ rfl (cZ y) _ ZP.out Tryz.underlying98 rfl (by kernel_rfl)) (h:=?_);refine cV 8 (hy:=dD (by rfl) (fun w' aC=>dU .neq 98 (.tmp 20) (.tmp 24) 98 rfl rfl rfl (by kernel_rfl) (hq w'))) (h:=?_);refine aF (by kernel_rfl) ?_ _;intro w8 cg;have nV:=qh (ag (aN nf.out) cg);clear cg nf OE ZP hq;cases e with
   |false=>
    have hF:b=ρ:=by
     rw[←Gi.out];refine decide_eq_false (fun e=>of_decide_eq_false HXY.out ?_);have h1:=HX.out;rw[e,HY.out] at h1;exact(Μ h1).symm
    have HF:=qh hF;clear hF;go_wp2;go_ret;have hF:=HF.out;exact⟨by rw[hF];rfl,nV.out⟩
   |true=>
    have HI8:Hid (G.take (j+1)=H.take (j+1)):=qh (by rw[Jbc,Jbc,HI.out,HX.out,HY.out,of_decide_eq_true HXY.out]);clear HI;go_wp2;go_roundw
    case rel=>exact⟨j+1,by omega,by go_num,nV,HI8⟩
    case measure=>simp[intOf];omega
  ·obtain rfl:n=j:=by omega
   have hF:b=τ:=by
    rw[←Gi.out]
    have:=HI.out
    rw[Ι (by have:=HL.out;omega),Ι (by have:=HL'.out;omega)] at this;exact decide_eq_true this
   have HF:=qh hF;clear hF;go_wp2;go_ret;have hF:=HF.out;exact⟨by rw[hF];rfl,nf.out⟩
theorem Ca {A B C A' B' C':Option Κ} {n c m k r rc n' c' m' k' r' iv:Nat} {Vs Ws:List VC} {Es Fs:List EC} {G H:List Gn} (W:ο) (h:bz W A n c Vs B m k Es) (hg:bg W W.heap.size 6 C r rc (ah cZ G)) (h':bz W A' n' c' Ws B' m' k' Fs) (UD:bg W W.heap.size 6 C' r' iv (ah cZ H)) (hn:n≤1000000) (hm:m≤1000000) (hr:r≤1000000):
 Ζ η 16 #[φ #[γ A n c,γ B m k,γ C r rc],φ #[γ A' n' c',γ B' m' k',γ C' r' iv]] W fun e w'=>e=.returned (Β (decide (Vs.map vS=Ws.map vS∧Es=Fs∧G=H)))∧σ W.heap.size W w':=by
 have hq:decide (Vs.map vS=Ws.map vS∧Es=Fs∧G=H)=(decide (Vs.map vS=Ws.map vS∧Es=Fs) && decide (G=H)):=by
  rw[←Bool.decide_and,decide_eq_decide,and_assoc]
 rw[hq];have HD:Hid (∀X,σ W.heap.size W X→Ζ η 36 #[φ #[γ A n c,γ B m k],φ #[γ A' n' c',γ B' m' k']] X fun e w'=>e=.returned (Β (decide (Vs.map vS=Ws.map vS∧Es=Fs)))∧σ X.heap.size X w'):=qh (fun X hX=>Km A n c Vs B m k Es A' n' c' Ws B' m' k' Fs X (h.below hX) (h'.below hX) hn hm);have HG:Hid (∀X,σ W.heap.size W X→Ζ η 53 #[γ C r rc,γ C' r' iv] X fun e w'=>e=.returned (Β (decide (G=H)))∧σ X.heap.size X w'):=qh (fun X hX=>F0 C r rc G C' r' iv H X (hg.bl hX) (UD.bl hX) hr);clear h hg h' UD hn hm hr hq;obtain⟨p,gp⟩:=aB (decide (Vs.map vS=Ws.map vS∧Es=Fs));obtain⟨q,gq⟩:=aB (decide (G=H));rw[gp] at HD ⊢;rw[gq] at HG ⊢;clear gp gq;go_enter Tryz.func16,Tryz.ntmps16;go_upto_region 1 with fail
 obtain⟨W0,b0,b1,bO,bp,dE,aQ,aL,bw,-,-,oa,-,iP,uW⟩:=wT W 28 [γ A n c,γ B m k,γ C r rc] 28 [γ A' n' c',γ B' m' k',γ C' r' iv];rw[bO,dE,bp];clear bO bp dE;have x0:=aQ.out.cell (i:=0) rfl;have x1:=aQ.out.cell (i:=1) rfl;have x2:=aQ.out.cell (i:=2) rfl;have y0:=aL.out.cell (i:=0) rfl;have y1:=aL.out.cell (i:=1) rfl;have y2:=aL.out.cell (i:=2) rfl
 go_wp2_with (first
  |(go_at_call 36
    refine(HD.out _ bw.out).mono ?_
    rintro e w2 ⟨rfl,aP⟩;have bG:=qh (ag bw.out aP);have z2:=(aQ.out.bl aP).cell (i:=2) rfl;have u2:=(aL.out.bl aP).cell (i:=2) rfl;clear aP aQ aL bw HD x0 x1 x2 y0 y1 y2)
  |(go_at_call 53
    refine(HG.out _ bG.out).mono ?_
    rintro e w3 ⟨rfl,bA⟩;have bB:=qh (ag bG.out bA);clear bA bG HG z2 u2;cases p))
 all_goals
  go_ret;exact⟨rfl,bB.out⟩
end Go.Proofs.YtpdpbfmiahjiiaaGreat
