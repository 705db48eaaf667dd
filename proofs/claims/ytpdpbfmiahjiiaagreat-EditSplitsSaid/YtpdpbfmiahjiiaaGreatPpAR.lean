/- Several texts in one. -/
import Derived.Test.YtpdpbfmiahjiiaaGreatPpAB
import Derived.Test.YtpdpbfmiahjiiaaGreatPpAE
import Derived.Test.YtpdpbfmiahjiiaaGreatPpAK
import Derived.Test.YtpdpbfmiahjiiaaGreatPpAQ
set_option linter.unusedSectionVars false
set_option linter.unusedSimpArgs false
set_option linter.unusedVariables false
set_option maxRecDepth 100000
set_option maxHeartbeats 16000000
namespace Go.Proofs.YtpdpbfmiahjiiaaGreat
open Go.RowKit
open _root_.Go.Value renaming slice→γ,pointer→υ,agg→φ,bool→Β,tuple→Ξ,oneCell'→Τ
open _root_.Go.Obj renaming cells→δ
open _root_.Option renaming none→ε,some→ζ,some→Jae
open _root_.Go.Proofs.Tryz renaming prog→η
open _root_.List renaming map_cons→ι,map_nil→π,mem_of_getElem?→ω,mem_map→Α,getElem?_cons_succ→Jag,getElem?_cons_zero→Jah,getElem?_toArray→Jaj
open _root_.Go.Act renaming put→ξ
open _root_.Go renaming World→ο,Value→ψ,Calls→Ζ,Addr→Κ
open _root_.Bool renaming false→ρ,true→τ
open _root_.Go.RowKit renaming Below→σ
open _root_.Nat renaming le_refl→Δ,le_trans→Λ
open _root_.Go.RowKit.Below renaming refl→Θ
def gJ (x:Nm) (t:Int→D) (G:List Gn):Nat→List Gn
 |0=>G
 |j+1=>dJ (gJ x t G j) (aU x (j:Int),t (j:Int))
theorem tG (x:Nm) (t:Int→D) {G:List Gn} (h:ft G) (hl:G.length≤400):∀j,ft (gJ x t G j)∧(gJ x t G j).length≤400
 |0=>⟨h,hl⟩
 |j+1=>⟨fP _ (tG x t h hl j).1,lY _ _ (tG x t h hl j).2 (tG x t h hl j).1⟩
theorem qG (a b c x y z:Int) (X:ο):(binOp .eql 32 (φ #[J a,J b,J c]) (φ #[J x,J y,J z])).run η X=.ok (Β (decide ((a,b,c)=(x,y,z)))) X:=by
 by_cases h1:a=x
 ·by_cases h2:b=y
  ·by_cases h3:c=z
   ·simp[go_sem,h1,h2,h3]
   ·simp[go_sem,h1,h2,h3]
  ·simp[go_sem,h1,h2]
 ·simp[go_sem,h1]
section
variable {w W:ο} {lo g:Nat} {A:Option Κ} {n c:Nat} {Vs:List VC} {B:Option Κ} {m k:Nat} {Es:List EC} {C:Option Κ} {r rc:Nat} {G:List Gn}
theorem Ud (h:dK w lo g A n c Vs B m k Es C r rc G W) (hS:fA (Vs.map vS,Es,G)) (o:cZ) (h1:bo (Vs.map vS) (bp o)=ρ):Ζ η 95 #[υ (ζ ⟨g,0,ε⟩),φ (aa o).toArray] W (fX w W lo g (cV (Vs.map vS,Es,G) (bp o) (cQ o))):=by
 obtain⟨hn,hm,hr,pd⟩:=hS.n24 h;have HV:Hid (∀X,dK w lo g A n c Vs B m k Es C r rc G X→Ζ η 110 #[υ (ζ ⟨g,0,ε⟩),φ #[J o.s,J o.n]] X fun e w'=>e=.returned (J (gi (fun v:VC=>v.1) Vs (bp o)))∧σ X.heap.size X w'):=qh (fun X hX=>j7 g A n c B m k C r rc o.s o.n Vs X hX.s (aJ hX.v) (by omega));have HR:Hid (cV (Vs.map vS,Es,G) (bp o) (cQ o)=(cp,13)):=qh (by unfold cV;rw[if_pos h1]);have e1:=iA (k:=fun v:VC=>v.1) (l:=Vs) ((fe Vs _).trans h1);rw[e1] at HV;clear hS pd e1;have H:=qh h;clear h;go_enter Tryz.func95,Tryz.ntmps95;go_upto_region 1 with fail
 obtain⟨W1,aO⟩:=ay (W.alloc (δ (aa o).toArray 36));have aI:Hid (Whole W1 W.heap.size 36 (aa o)):=qh (by rw[←aO];exact Whole.new_ _ _ _);have jq:Hid (dK w lo g A n c Vs B m k Es C r rc G W1):=qh (by rw[←aO];exact H.out.al _);have eA:Hid (σ W.heap.size W W1):=qh (by rw[←aO];exact ax _ _);rw[aO];clear aO H;have Nb:Hid (W.heap.size≠g):=qh (aI.out.ne_ jq.out.s (by decide));obtain⟨b0,bK⟩:=ay W.heap.size;rw[bK] at aI Nb ⊢;clear bK;have lT:=aI.out.cell (i:=1) rfl;have mc:=aI.out.cell (i:=2) rfl
 go_wp2_with (first
  |(go_at_call 110
    refine(HV.out _ jq.out).mono ?_
    rintro e w2 ⟨rfl,ar⟩;have iF:=qh (jq.out.bl ar);have aV:=qh (aI.out.bl ar);have bX:=qh (af eA.out ar);clear ar jq aI eA lT mc;have nu:=aV.out.cell (i:=1) rfl;have ns:=aV.out.cell (i:=2) rfl;have nC:=aV.out.cell (i:=5) rfl;have nP:=aV.out.cell (i:=6) rfl;have s0:=iF.out.s.cell (i:=0) rfl;have s1:=iF.out.s.cell (i:=1) rfl))
 go_ret;exact fX.no HR.out (by decide) rfl iF.out.below (aY.of_below bX.out)
theorem Ve (h:dK w lo g A n c Vs B m k Es C r rc G W) (hS:fA (Vs.map vS,Es,G)) (o:cZ) (i:Nat) (v:VC) (hv:Vs[i]? =ζ v) (hid:v.1=bp o) (VX:gi (fun v:VC=>v.1) Vs (bp o)=(i:Int)):Ζ η 95 #[υ (ζ ⟨g,0,ε⟩),φ (aa o).toArray] W (fX w W lo g (cV (Vs.map vS,Es,G) (bp o) (cQ o))):=by
 obtain⟨hn,hm,hr,pd⟩:=hS.n24 h;have HV:Hid (∀X,dK w lo g A n c Vs B m k Es C r rc G X→Ζ η 110 #[υ (ζ ⟨g,0,ε⟩),φ #[J o.s,J o.n]] X fun e w'=>e=.returned (J (gi (fun v:VC=>v.1) Vs (bp o)))∧σ X.heap.size X w'):=qh (fun X hX=>j7 g A n c B m k C r rc o.s o.n Vs X hX.s (aJ hX.v) (by omega));have hi:i<n:=by rw[←h.vlen];exact(List.getElem?_eq_some_iff.1 hv).1
 have N1:(Vs.map (·.1)).Nodup:=um Vs▸hS.fit.vup.nodup;have bB:=Aw N1 hv;rw[hid] at bB;have Qo:=ω hv;have sK:=pd v Qo;have h1:bo (Vs.map vS) (bp o)=τ:=(fe Vs _).symm.trans (eB.2 ⟨v,Qo,hid⟩);rw[VX] at HV;obtain⟨⟨sd,gd⟩,ok,gmt⟩:∃p ok,jP v.2.1.2.2.2 (cQ o)=(p,ok):=⟨_,_,rfl⟩
 have YH:Hid (∀X,rb X v.2.1→Ζ η 129 #[γ v.2.1.1 v.2.1.2.1 v.2.1.2.2.1,φ #[J o.s2,J o.n2]] X fun e w'=>e=.returned (Ξ #[φ #[J sd.1,J sd.2.1,J sd.2.2],φ #[J gd.1,J gd.2.1,J gd.2.2],Β ok])∧σ X.heap.size X w'):=qh (fun X hX=>by
  have:=LX (W:=X) v.2.1.1 v.2.1.2.1 v.2.1.2.2.1 v.2.1.2.2.2 o.s2 o.n2 hX.2.1
  rw[show((o.s2,o.n2):Nm)=cQ o from rfl,gmt] at this;exact this)
 obtain⟨bv,junk,rfl,-,-⟩:=dZ h.v (by omega);have hiI:(i:Int)<(n:Int):=by omega
 obtain⟨tf,gtf⟩:∃z:Int→D,z=fun t=>if aU (cQ o) t=gd then zD else sd:=⟨_,rfl⟩
 have HTf:Hid (∀s,tf s=if aU (cQ o) s=gd then zD else sd):=qh (fun s=>by rw[gtf])
 have HSm:Hid (cV (Vs.map vS,Es,G) (bp o) (cQ o)=if ok=τ then((rings (dw (Vs.map vS) (bp o)) (fun l=>aS (fo l (gd.1,gd.2.1,1 - gd.2.2) sd)),js Es (cQ o),gJ (cQ o) tf G 2),0) else(cp,14)):=qh (by
  subst gtf;have Ki:jP v.2.1.2.2.2 (cQ o)=((sd,gd),ok):=gmt;unfold cV;rw[if_neg (by rw[h1];decide),bB];unfold jP at Ki;cases hq:gH v.2.1.2.2.2 (cQ o) with
  |none=>
   rw[hq] at Ki;have e3:ρ=ok:=congrArg Prod.snd Ki;rw[←e3];rfl
  |some p=>
   rw[hq] at Ki;obtain⟨a,b⟩:=p;have e3:τ=ok:=congrArg Prod.snd Ki;have e1:a=sd:=congrArg (fun z:(D × D) × Bool=>z.1.1) Ki;have e2:b=gd:=congrArg (fun z:(D × D) × Bool=>z.1.2) Ki;rw[←e3,←e1,←e2,if_pos rfl];have hu:vS v∈(Vs.map vS,Es,G).1:=Α.2 ⟨v,Qo,rfl⟩;obtain⟨f1,f2,f3⟩:=xB hS.fit hu (show gH (vS v).2.1 (cQ o)=ζ (a,b) from hq);have f4:=AW hS.fit hu (show gH (vS v).2.1 (cQ o)=ζ (a,b) from hq);rw[show(vS v).1=bp o from hid] at f4;rw[f4]
   show((dn (dw (Vs.map vS) (bp o)) (b.1,b.2.1,1 - b.2.2) a,js Es (cQ o),dJ (dJ G (aU (cQ o) 0,if aU (cQ o) 0=(b.1,b.2.1,1 - b.2.2) then a else zD)) (aU (cQ o) 1,if aU (cQ o) 1=(b.1,b.2.1,1 - b.2.2) then a else zD)),(0:Int))=((_,_,dJ (dJ G (aU (cQ o) 0,if aU (cQ o) 0=b then zD else a)) (aU (cQ o) 1,if aU (cQ o) 1=b then zD else a)),0)
   rw[f2,←uH f1 (.inl rfl),←uH f1 (.inr rfl)])
 have mY:Hid (ok=τ→(gd.2.2=0∨gd.2.2=1)∧bN Es (cQ o)=τ):=qh (fun iN=>by
  have Ki:jP v.2.1.2.2.2 (cQ o)=((sd,gd),ok):=gmt;unfold jP at Ki;cases hq:gH v.2.1.2.2.2 (cQ o) with
  |none=>
   rw[hq] at Ki;have e3:ρ=ok:=congrArg Prod.snd Ki;rw[iN] at e3;cases e3
  |some p=>
   rw[hq] at Ki;obtain⟨a,b⟩:=p;have e2:b=gd:=congrArg (fun z:(D × D) × Bool=>z.1.2) Ki;obtain⟨hl,cu,hb⟩:=ug hq
   have hbm:b∈(vS v).2.1:=by
    show b∈v.2.1.2.2.2;rcases hl with e|e<;>rw[e]<;>simp
   have:=hS.fit.known (vS v) (Α.2 ⟨v,Qo,rfl⟩) b hbm
   rw[hb,e2] at this;exact⟨this.2,this.1⟩)
 have Tt:=qh ((Dz hS.fit.vup hv).trans (by rw[hid]));have ZP:Hid (pW (fun e:EC=>e.1) Es):=qh hS.fit.eup;have HT:Hid (∀j,ft (gJ (cQ o) tf G j)∧(gJ (cQ o) tf G j).length≤400):=qh (tG (cQ o) _ hS.gr (by rw[h.glen];omega));have SD:Hid (∀x∈Vs.eraseIdx i,x.2.1.2.1≤1000):=qh (fun x hx=>Λ (pd x (List.mem_of_mem_eraseIdx hx)) (by decide));have QL:Hid (QI 130):=qh (rN Tryz.func130 (by kernel_rfl) rfl);have HVi:=qh hv;clear hS pd N1 bB hid VX Qo h1 gmt hv gtf;obtain⟨⟨i1,i2⟩,⟨rA,rn,bR,rL⟩,lb,at_⟩:=v;have H:=qh h;clear h;go_enter Tryz.func95,Tryz.ntmps95;go_upto_region 1 with fail
 obtain⟨W1,aO⟩:=ay (W.alloc (δ (aa o).toArray 36));have aI:Hid (Whole W1 W.heap.size 36 (aa o)):=qh (by rw[←aO];exact Whole.new_ _ _ _);have jq:Hid (dK w lo g (ζ ⟨bv,0,ε⟩) n c Vs B m k Es C r rc G W1):=qh (by rw[←aO];exact H.out.al _);have eA:Hid (σ W.heap.size W W1):=qh (by rw[←aO];exact ax _ _);rw[aO];clear aO H;have Nb:Hid (W.heap.size≠g):=qh (aI.out.ne_ jq.out.s (by decide));obtain⟨b0,bK⟩:=ay W.heap.size;rw[bK] at aI Nb ⊢;clear bK;have lT:=aI.out.cell (i:=1) rfl;have mc:=aI.out.cell (i:=2) rfl
 go_upto_region 4 with (first
  |(go_at_call 110
    refine(HV.out _ jq.out).mono ?_
    rintro e w2 ⟨rfl,ar⟩;have iF:=qh (jq.out.bl ar);have aV:=qh (aI.out.bl ar);have bX:=qh (af eA.out ar);clear ar jq aI eA lT mc;have nu:=aV.out.cell (i:=1) rfl;have ns:=aV.out.cell (i:=2) rfl;have nC:=aV.out.cell (i:=5) rfl;have nP:=aV.out.cell (i:=6) rfl;have s0:=iF.out.s.cell (i:=0) rfl;have s1:=iF.out.s.cell (i:=1) rfl))
 obtain⟨W3,lZ⟩:=ay w2;rw[lZ] at iF aV bX ⊢;clear lZ nu ns nC nP s0 s1;obtain⟨b9,off,e9,bD,bM⟩:=(aJ iF.out.v).place aQ (by decide) (by omega)
 have e3:b9=bv∧off=0:=by
  injection e9 with e9
  injection e9 with e4 e5
  exact⟨e4.symm,e5.symm⟩
 obtain⟨rfl,rfl⟩:=e3;have wv:=bM i _ HVi.out 2 _ rfl;simp only[Addr.add_lit,Nat.zero_add] at wv;have VV:Hid (W3.cell? ⟨b9,i*5+2,ε⟩=ζ (γ rA rn bR)):=qh wv;have lk:Hid (rb W3 (rA,rn,bR,rL)):=qh (iF.out.rg _ (ω HVi.out));have zG:Hid (b9<W3.heap.size):=qh bD;clear bM e9 bD wv
 have sV:Hid (∀y,Ext W3.drew y→y.cell? ⟨g,0,ε⟩=ζ (γ (ζ ⟨b9,0,ε⟩) n c)∧y.cell? ⟨b9,i*5+2,ε⟩=ζ (γ rA rn bR)∧y.cell? ⟨b0,5,ε⟩=ζ (J o.s2)∧y.cell? ⟨b0,6,ε⟩=ζ (J o.n2)):=qh (fun y hy=>
  ⟨(iF.out.dr.bl hy).s.cell (i:=0) rfl,hy.cell (show W3.drew.cell? _=_ from VV.out),(aV.out.dr.bl hy).cell (i:=5) rfl,(aV.out.dr.bl hy).cell (i:=6) rfl⟩)
 refine yJ 18 14 15 16 17 3 (de W3.heap.size) (F6 [fun v W=>v=υ (ζ ⟨g,0,ε⟩),fun v W=>v=υ (ζ ⟨g,0,ε⟩),fun v W=>v=υ (ζ ⟨g,0,ε⟩),fun v W=>v=υ (ζ ⟨g,0,ε⟩),fun v W=>v=γ (ζ ⟨b9,0,ε⟩) n c,fun v W=>v=J (i:Int),fun v W=>v=υ (ζ ⟨b9,i*5,ε⟩),fun v W=>v=υ (ζ ⟨b9,i*5+2,ε⟩),fun v W=>v=γ rA rn bR,fun v W=>v=υ (ζ ⟨b0,5,ε⟩),fun v W=>v=φ #[J o.s2,J o.n2],fun v W=>v=Ξ #[φ #[J sd.1,J sd.2.1,J sd.2.2],φ #[J gd.1,J gd.2.1,J gd.2.2],Β ok],fun v W=>v=Ξ #[φ #[J sd.1,J sd.2.1,J sd.2.2],φ #[J gd.1,J gd.2.1,J gd.2.2],Β ok],fun v W=>v=φ #[J sd.1,J sd.2.1,J sd.2.2],fun v W=>v=φ #[J gd.1,J gd.2.1,J gd.2.2],fun v W=>v=Β ok,fun v W=>∃q,v=υ (ζ ⟨q,0,ε⟩)∧W3.heap.size≤q∧Whole (W) q 32 [J 0,J 0,J 0],fun v W=>∃q,v=υ (ζ ⟨q,0,ε⟩)∧W3.heap.size≤q∧Whole (W) q 32 [J 0,J 0,J 0]]) (Ext W3.drew) (by kernel_rfl) (by kernel_rfl) (by kernel_rfl) (by kernel_rfl) (by kernel_rfl) (by simp only[Jaj,Jag,Jah];exact rfl) (by simp only[Jaj,Jag,Jah];exact rfl) (by kernel_rfl) ⟨by kernel_rfl,by kernel_rfl,by kernel_rfl⟩ ⟨by kernel_rfl,by kernel_rfl,by kernel_rfl⟩ ⟨by kernel_rfl,by kernel_rfl,by kernel_rfl⟩ ⟨by kernel_rfl,by kernel_rfl,by kernel_rfl,by kernel_rfl⟩ (by decide) ?_ ?_ (vZ (by
  intro Q hQ v w1 w2 h hx;simp only[List.mem_cons,List.not_mem_nil,or_false] at hQ;rcases hQ with rfl|rfl|rfl|rfl|rfl|rfl|rfl|rfl|rfl|rfl|rfl|rfl|rfl|rfl|rfl|rfl|rfl|rfl
  ·exact(fun v w1 w2 h hx=>h) v w1 w2 h hx
  ·exact(fun v w1 w2 h hx=>h) v w1 w2 h hx
  ·exact(fun v w1 w2 h hx=>h) v w1 w2 h hx
  ·exact(fun v w1 w2 h hx=>h) v w1 w2 h hx
  ·exact(fun v w1 w2 h hx=>h) v w1 w2 h hx
  ·exact(fun v w1 w2 h hx=>h) v w1 w2 h hx
  ·exact(fun v w1 w2 h hx=>h) v w1 w2 h hx
  ·exact(fun v w1 w2 h hx=>h) v w1 w2 h hx
  ·exact(fun v w1 w2 h hx=>h) v w1 w2 h hx
  ·exact(fun v w1 w2 h hx=>h) v w1 w2 h hx
  ·exact(fun v w1 w2 h hx=>h) v w1 w2 h hx
  ·exact(fun v w1 w2 h hx=>h) v w1 w2 h hx
  ·exact(fun v w1 w2 h hx=>h) v w1 w2 h hx
  ·exact(fun v w1 w2 h hx=>h) v w1 w2 h hx
  ·exact(fun v w1 w2 h hx=>h) v w1 w2 h hx
  ·exact(fun v w1 w2 h hx=>h) v w1 w2 h hx
  ·exact(fun v w1 w2 h hx=>(by obtain⟨q,e1,e2,e3⟩:=h;exact⟨q,e1,e2,e3.bl hx⟩)) v w1 w2 h hx
  ·exact(fun v w1 w2 h hx=>(by obtain⟨q,e1,e2,e3⟩:=h;exact⟨q,e1,e2,e3.bl hx⟩)) v w1 w2 h hx)) (fun _ _ h k=>h.trans k) (Ext.refl _) ?_ ?_ ?_ ?_ ?_ ?_
 ·exact fun _ _ _ _ h=>h
 ·exact fun _ _ _ _ h=>h
 ·intro i9 RZ R7 hq9;have lJ:i9=0∨i9=1∨i9=2∨i9=3∨i9=4∨i9=5∨i9=6∨i9=7∨i9=8∨i9=9∨i9=10∨i9=11∨i9=12∨i9=13∨i9=14∨i9=15:=by omega
  rcases lJ with rfl|rfl|rfl|rfl|rfl|rfl|rfl|rfl|rfl|rfl|rfl|rfl|rfl|rfl|rfl|rfl
  ·refine bj ?_;intro xf y hg aK;simp only[aP,ι,π,aC,ξ,aq,ak,ao];refine .inl ⟨by rfl,?_⟩;go_simp;exact⟨Ext.refl _,rfl⟩
  ·refine bj ?_;intro xf y hg aK;have d0:xf 0=υ (ζ ⟨g,0,ε⟩):=aK 0 (by decide);simp only[aP,ι,π,aC,ξ,aq,ak,ao];simp only[d0];refine .inl ⟨by rfl,?_⟩;go_simp;exact⟨Ext.refl _,rfl⟩
  ·refine bj ?_;intro xf y hg aK;have d1:xf 1=υ (ζ ⟨g,0,ε⟩):=aK 1 (by decide);simp only[aP,ι,π,aC,ξ,aq,ak,ao];simp only[d1];refine .inl ⟨by rfl,?_⟩;go_simp;exact⟨Ext.refl _,rfl⟩
  ·refine bj ?_;intro xf y hg aK;have d2:xf 2=υ (ζ ⟨g,0,ε⟩):=aK 2 (by decide);simp only[aP,ι,π,aC,ξ,aq,ak,ao];simp only[d2];refine .inl ⟨by rfl,?_⟩;go_simp;exact⟨Ext.refl _,rfl⟩
  ·refine bj ?_;intro xf y hg aK;have d3:xf 3=υ (ζ ⟨g,0,ε⟩):=aK 3 (by decide);obtain⟨Af,qR,ox,zT⟩:=sV.out _ hg;simp only[aP,ι,π,aC,ξ,aq,ak,ao];simp only[d3];refine .inl ⟨by rfl,?_⟩;go_simp;exact⟨Ext.refl _,rfl⟩
  ·refine bj ?_;intro xf y hg aK;simp only[aP,ι,π,aC,ξ,aq,ak,ao];refine .inl ⟨by rfl,?_⟩;go_simp;exact⟨Ext.refl _,rfl⟩
  ·refine bj ?_;intro xf y hg aK;have d4:xf 4=γ (ζ ⟨b9,0,ε⟩) n c:=aK 4 (by decide);have d5:xf 5=J (i:Int):=aK 5 (by decide);simp only[aP,ι,π,aC,ξ,aq,ak,ao];simp only[d4,d5];refine .inl ⟨by rfl,?_⟩;go_simp;exact⟨Ext.refl _,rfl⟩
  ·refine bj ?_;intro xf y hg aK;have d6:xf 6=υ (ζ ⟨b9,i*5,ε⟩):=aK 6 (by decide);simp only[aP,ι,π,aC,ξ,aq,ak,ao];simp only[d6];refine .inl ⟨by rfl,?_⟩;go_simp;exact⟨Ext.refl _,rfl⟩
  ·refine bj ?_;intro xf y hg aK;have d7:xf 7=υ (ζ ⟨b9,i*5+2,ε⟩):=aK 7 (by decide);obtain⟨Af,qR,ox,zT⟩:=sV.out _ hg;simp only[aP,ι,π,aC,ξ,aq,ak,ao];simp only[d7];refine .inl ⟨by rfl,?_⟩;go_simp;exact⟨Ext.refl _,rfl⟩
  ·refine bj ?_;intro xf y hg aK;simp only[aP,ι,π,aC,ξ,aq,ak,ao];refine .inl ⟨by rfl,?_⟩;go_simp;exact⟨Ext.refl _,rfl⟩
  ·refine bj ?_;intro xf y hg aK;have d9:xf 9=υ (ζ ⟨b0,5,ε⟩):=aK 9 (by decide);obtain⟨Af,qR,ox,zT⟩:=sV.out _ hg;simp only[aP,ι,π,aC,ξ,aq,ak,ao];simp only[d9];refine .inl ⟨by rfl,?_⟩;go_simp;exact⟨Ext.refl _,rfl⟩
  ·refine bj ?_;intro xf y hg aK;have d8:xf 8=γ rA rn bR:=aK 8 (by decide);have d10:xf 10=φ #[J o.s2,J o.n2]:=aK 10 (by decide);simp only[aP,ι,π,aC,ξ,aq,ak,ao];simp only[d8,d10];refine .inl ⟨by rfl,eR (by go_simp;first|done|exact⟨rfl,rfl⟩|with_reducible rfl) ?_⟩
   refine(YH.out y (lk.out.bl ((Θ _ W3).drew.trans (hg.mono (Δ _))))).mono ?_
   rintro e w2 ⟨rfl,hb⟩
   refine⟨_,rfl,hb,?_⟩
   show(_:ψ)=Ξ #[φ #[J sd.1,J sd.2.1,J sd.2.2],φ #[J gd.1,J gd.2.1,J gd.2.2],Β ok]
   exact rfl
  ·refine bj ?_;intro xf y hg aK;have d11:xf 11=Ξ #[φ #[J sd.1,J sd.2.1,J sd.2.2],φ #[J gd.1,J gd.2.1,J gd.2.2],Β ok]:=aK 11 (by decide);simp only[aP,ι,π,aC,ξ,aq,ak,ao];simp only[d11];refine .inl ⟨by rfl,?_⟩;go_simp;exact⟨Ext.refl _,rfl⟩
  ·refine bj ?_;intro xf y hg aK;have d12:xf 12=Ξ #[φ #[J sd.1,J sd.2.1,J sd.2.2],φ #[J gd.1,J gd.2.1,J gd.2.2],Β ok]:=aK 12 (by decide);simp only[aP,ι,π,aC,ξ,aq,ak,ao];simp only[d12];refine .inl ⟨by rfl,?_⟩;go_simp;exact⟨Ext.refl _,rfl⟩
  ·refine bj ?_;intro xf y hg aK;have d12:xf 12=Ξ #[φ #[J sd.1,J sd.2.1,J sd.2.2],φ #[J gd.1,J gd.2.1,J gd.2.2],Β ok]:=aK 12 (by decide);simp only[aP,ι,π,aC,ξ,aq,ak,ao];simp only[d12];refine .inl ⟨by rfl,?_⟩;go_simp;exact⟨Ext.refl _,rfl⟩
  ·refine bj ?_;intro xf y hg aK;have d12:xf 12=Ξ #[φ #[J sd.1,J sd.2.1,J sd.2.2],φ #[J gd.1,J gd.2.1,J gd.2.2],Β ok]:=aK 12 (by decide);simp only[aP,ι,π,aC,ξ,aq,ak,ao];simp only[d12];refine .inl ⟨by rfl,?_⟩;go_simp;exact⟨Ext.refl _,rfl⟩
 ·intro o ho xf y hg aK;simp only[Jaj,Jag,Jah,Jae.injEq] at ho;subst ho;simp only[aP,ι,π,aC,ξ,aq,ak,ao]
  refine⟨by rfl,jy (w':=y.alloc (δ #[J 0,J 0,J 0] 32)) (by go_simp;first|done|exact rfl|exact⟨rfl,rfl⟩) (ax _ _) ⟨?_,fun v0 h0=>?_⟩⟩
  ·show ∃q,(_:ψ)=υ (ζ ⟨q,0,ε⟩)∧W3.heap.size≤q∧Whole ((y.alloc (δ #[J 0,J 0,J 0] 32))) q 32 [J 0,J 0,J 0]
   exact⟨y.heap.size,rfl,hg.size,Whole.new_ _ _ [_,_,_]⟩
  ·obtain⟨q0,rfl,-,hw0⟩:∃q,v0=υ (ζ ⟨q,0,ε⟩)∧W3.heap.size≤q∧Whole (y) q 32 [J 0,J 0,J 0]:=h0
   intro he;injection he with he
   injection he with he
   injection he with he _
   have:=hw0.lt
   omega
 ·intro o ho xf y hg aK;simp only[Jaj,Jag,Jah,Jae.injEq] at ho;subst ho;simp only[aP,ι,π,aC,ξ,aq,ak,ao]
  refine⟨by rfl,jy (w':=y.alloc (δ #[J 0,J 0,J 0] 32)) (by go_simp;first|done|exact rfl|exact⟨rfl,rfl⟩) (ax _ _) ⟨?_,fun v0 h0=>?_⟩⟩
  ·show ∃q,(_:ψ)=υ (ζ ⟨q,0,ε⟩)∧W3.heap.size≤q∧Whole ((y.alloc (δ #[J 0,J 0,J 0] 32))) q 32 [J 0,J 0,J 0]
   exact⟨y.heap.size,rfl,hg.size,Whole.new_ _ _ [_,_,_]⟩
  ·obtain⟨q0,rfl,-,hw0⟩:∃q,v0=υ (ζ ⟨q,0,ε⟩)∧W3.heap.size≤q∧Whole (y) q 32 [J 0,J 0,J 0]:=h0
   intro he;injection he with he
   injection he with he
   injection he with he _
   have:=hw0.lt
   omega
 ·intro xf y hg cN;have d12:xf 12=Ξ #[φ #[J sd.1,J sd.2.1,J sd.2.2],φ #[J gd.1,J gd.2.1,J gd.2.2],Β ok]:=cN 12 (by decide) (by decide) (by decide);simp only[aP,ι,π,aC,ξ,aq,ak,ao];simp only[d12]
  refine⟨φ #[J gd.1,J gd.2.1,J gd.2.2],?_,rfl⟩
  apply dG;rfl;intro w' aB;go_simp;(try with_reducible rfl)
 ·intro xf y hg cN;have d12:xf 12=Ξ #[φ #[J sd.1,J sd.2.1,J sd.2.2],φ #[J gd.1,J gd.2.1,J gd.2.2],Β ok]:=cN 12 (by decide) (by decide) (by decide);simp only[aP,ι,π,aC,ξ,aq,ak,ao];simp only[d12]
  refine⟨Β ok,?_,rfl⟩
  apply dG;rfl;intro w' aB;go_simp;(try with_reducible rfl)
 intro xf y hg cN cu;have d13:xf 13=φ #[J sd.1,J sd.2.1,J sd.2.2]:=cN 13 (by decide);have d14:xf 14=φ #[J gd.1,J gd.2.1,J gd.2.2]:=cN 14 (by decide);have d15:xf 15=Β ok:=cN 15 (by decide);obtain⟨b6,d16,FL,VD⟩:∃q,xf 16=υ (ζ ⟨q,0,ε⟩)∧W3.heap.size≤q∧Whole (y) q 32 [J 0,J 0,J 0]:=cN 16 (by decide)
 obtain⟨b7,d17,PS,VF⟩:∃q,xf 17=υ (ζ ⟨q,0,ε⟩)∧W3.heap.size≤q∧Whole (y) q 32 [J 0,J 0,J 0]:=cN 17 (by decide)
 have Yo:b6≠b7:=fun e=>cu (by rw[d16,d17,e])
 simp only[aP,ι,π,aC,ξ,aq,ak,ao];simp only[d13,d14,d15,d16,d17];clear cN d13 d14 d15 d16 d17 cu;have N67:=qh Yo;have L6:=qh FL;have L7:=qh PS;have VR:=qh VD;have XU:=qh VF;have zK:=qh (af (aL (Θ _ W3)) hg);clear Yo FL PS VD VF;unfold kY;refine kI 18 ?_;intro w' aB
 refine⟨w'.setRow b6 #[J sd.1,J sd.2.1,J sd.2.2],bn 32 (.tmp 6) (.tmp 32) rfl b6 rfl [J sd.1,J sd.2.1,J sd.2.2] rfl 32 [J 0,J 0,J 0] (VR.out.bl aB) (by kernel_rfl) rfl (by simp[Τ]),dV (show W3.heap.size≤b6 from L6.out) _,?_⟩
 have HWc:=qh (Whole.row (VR.out.bl aB) [J sd.1,J sd.2.1,J sd.2.2]);have HWd:=qh ((XU.out.bl aB).row_far N67.out.symm #[J sd.1,J sd.2.1,J sd.2.2]);have IV:=qh (cC (af zK.out aB) L6.out #[J sd.1,J sd.2.1,J sd.2.2]);obtain⟨V3,tL⟩:=ay (w'.setRow b6 #[J sd.1,J sd.2.1,J sd.2.2]);rw[tL] at HWc HWd IV ⊢;clear aB tL VR XU zK;refine kI 19 ?_;intro w' aB
 refine⟨w'.setRow b7 #[J gd.1,J gd.2.1,J gd.2.2],bn 32 (.tmp 7) (.tmp 33) rfl b7 rfl [J gd.1,J gd.2.1,J gd.2.2] rfl 32 [J 0,J 0,J 0] (HWd.out.bl aB) (by kernel_rfl) rfl (by simp[Τ]),dV (show W3.heap.size≤b7 from L7.out) _,?_⟩
 have HWe:=qh ((HWc.out.bl aB).row_far N67.out #[J gd.1,J gd.2.1,J gd.2.2]);have HWf:=qh (Whole.row (HWd.out.bl aB) [J gd.1,J gd.2.1,J gd.2.2]);have HBd:=qh (cC (af IV.out aB) L7.out #[J gd.1,J gd.2.1,J gd.2.2]);obtain⟨V4,zY⟩:=ay (w'.setRow b7 #[J gd.1,J gd.2.1,J gd.2.2]);rw[zY] at HWe HWf HBd ⊢;clear aB zY HWc HWd IV;refine ag 20 ?_;refine aD (by kernel_rfl) ?_ _;intro W8 cE;have H6:=qh (HWe.out.bl cE);have H7:=qh (HWf.out.bl cE);have oR:=qh (af HBd.out cE);clear cE HWe HWf HBd;have Dd:=qh (iF.out.bl oR.out);have vY:=qh (aV.out.bl oR.out);have VI:=qh (aY.of_below (g:=g) (af bX.out oR.out));clear iF aV bX oR sV VV lk zG YH HV;have N6:Hid (b6≠g):=qh (H6.out.ne_ Dd.out.s (by decide));have N7:Hid (b7≠g):=qh (H7.out.ne_ Dd.out.s (by decide));have Yu:Hid (i<n):=qh hi;cases ok with
 |false=>
  go_wp2;go_ret;exact fX.no (HSm.out.trans (if_neg (by decide))) (by decide) rfl Dd.out.below VI.out
 |true=>
  have HR:=qh (HSm.out.trans (if_pos rfl));have HGd:=qh (mY.out rfl).1;obtain⟨je,ve,e1,e2,e3,e4⟩:=ij (k:=fun v:EC=>v.1) (l:=Es) (mY.out rfl).2;have EF:je<m:=by rw[←Dd.out.elen];exact e4
  have HJe:Hid (je<m):=qh EF;have EG:=qh ((Qc ZP.out e2).trans (by rw[show ve.1=cQ o from e3]))
  have HE:Hid (∀X A n c Vs,dK w lo g A n c Vs B m k Es C r rc G X→Ζ η 113 #[υ (ζ ⟨g,0,ε⟩),φ #[J o.s2,J o.n2]] X fun e w'=>e=.returned (J (je:Int))∧σ X.heap.size X w'):=qh (fun X A n c Vs hX=>by
   have:=iz g A n c B m k C r rc o.s2 o.n2 Es X hX.s (aJ hX.e) (by omega)
   rw[show((o.s2,o.n2):Nm)=cQ o from rfl,e1] at this;exact this)
  have hr4:r≤400:=hr;clear HSm mY e1 e2 e3 e4 ZP
  go_wp2_with (first
   |(go_at_call 112
     refine(DX Dd.out i Yu.out (by omega)).mono ?_
     rintro e w9 ⟨rfl,A9,c9,DO,zH⟩;have wD:=qh DO;have tX:=qh (zH.box vY.out Dd.out.s);have H69:=qh (zH.box H6.out Dd.out.s);have H79:=qh (zH.box H7.out Dd.out.s);have Wh:=qh (VI.out.trans zH);clear DO zH Dd vY H6 H7 VI)
   |(go_at_call 121
     refine(xh wD.out (by omega) SD.out 130 (ζ ⟨b7,0,ε⟩) (ζ ⟨b6,0,ε⟩) (fun l=>aS (fo l (gd.1,gd.2.1,1 - gd.2.2) sd)) (fun X=>Whole X b7 32 [J gd.1,J gd.2.1,J gd.2.2]∧Whole X b6 32 [J sd.1,J sd.2.1,J sd.2.2]) ⟨H79.out,H69.out⟩ (fun X Y hx hk=>⟨hk.w _ _ _ hx.1 N7.out (by decide) (by decide) (by decide),hk.w _ _ _ hx.2 N6.out (by decide) (by decide) (by decide)⟩) QL.out (fun X A n c L hx hr hn=>OE A n c b7 b6 L gd sd X hr hx.1 hx.2 HGd.out hn)).mono ?_
     rintro e vB ⟨rfl,Us,ZY,WN,MH⟩;have yt:=qh ZY;have abM:=qh WN;have Bn:=qh (MH.box tX.out wD.out.s);have ZV:=qh (MH.box H69.out wD.out.s);have Z0:=qh (MH.box H79.out wD.out.s);have M5:=qh (Wh.out.trans MH);clear ZY WN MH wD tX H69 H79 Wh;have x5:=Bn.out.cell (i:=5) rfl;have x6:=Bn.out.cell (i:=6) rfl)
   |(go_at_call 113
     refine(HE.out _ _ _ _ _ yt.out).mono ?_
     rintro e PB ⟨rfl,fU⟩;have CO:=qh (yt.out.bl fU);have yW:=qh (Bn.out.bl fU);have XI:=qh (ZV.out.bl fU);have Zg:=qh (Z0.out.bl fU);have LQ:=qh (M5.out.trans (aY.of_below fU));clear fU yt Bn ZV Z0 M5 x5 x6)
   |(go_at_call 124
     refine(Oa CO.out je HJe.out (by omega)).mono ?_
     rintro e w12 ⟨rfl,ZH,ZA,Wq,Mb⟩;have QV:=qh Wq;have lW:=qh (Mb.box yW.out CO.out.s);have XZ:=qh (Mb.box XI.out CO.out.s);have Ye:=qh (Mb.box Zg.out CO.out.s);have PY:=qh (LQ.out.trans Mb);clear Wq Mb CO yW XI Zg LQ;have x5:=lW.out.cell (i:=5) rfl;have x6:=lW.out.cell (i:=6) rfl)
   |(go_at_call 115
     refine(DW o.s2 o.n2 _).mono ?_
     rintro e w13 ⟨rfl,NZ⟩;have ZN:=qh (QV.out.bl NZ);have H6:=qh (XZ.out.bl NZ);have H7:=qh (Ye.out.bl NZ);have ZT:=qh (PY.out.trans (aY.of_below NZ));clear NZ QV lW XZ Ye PY x5 x6))
  obtain⟨w0,Qi⟩:=ay w13;rw[Qi] at ZN H6 H7 ZT;go_loopw [55] (fun i wr=>∃(j:Nat) (C:Option Κ) (r rc:Nat),j≤2∧i=J (j:Int)∧Hid (dK w lo g A9 (n - 1) c9 Us ZH (m - 1) ZA (Es.eraseIdx je) C r rc (gJ (cQ o) tf G j) wr)∧Hid (aY g w0 wr)) (fun i _=>2 - (intOf i).toNat)
  case atStart=>subst Qi;exact⟨0,C,r,rc,by omega,rfl,ZN,qh (aY.refl g _)⟩
  case round=>
   clear Qi;obtain⟨j,C,r,rc,fh,rfl,HS,HK⟩:=hrel;have RS:Hid (ft (gJ (cQ o) tf G j)∧r≤400):=qh ⟨(HT.out j).1,by rw[←HS.out.glen];exact(HT.out j).2⟩;have hj:j=0∨j=1∨j=2:=by omega
   rcases hj with rfl|rfl|rfl
   ·clear fh;have ix0:∀w:ο,(Instr.index 141 (φ #[J o.s2,J o.n2,J 0,J o.s2,J o.n2,J 1]) (J 0)).run η w=.ok (φ #[J o.s2,J o.n2,J 0]) w:=fun _=>by kernel_rfl
    have Xd:=qh (HK.out.w _ _ _ H6.out N6.out (by decide) (by decide) (by decide));have Ym:=qh (HK.out.w _ _ _ H7.out N7.out (by decide) (by decide) (by decide));go_upto_region 15 with fail
    have kZ:=qh (HS.out.al (δ #[J o.s2,J o.n2,J 0] 32));have KZ:=qh (HK.out.trans (aY.of_below (ax wr (δ #[J o.s2,J o.n2,J 0] 32))));have sm:Hid (Whole (wr.alloc (δ #[J o.s2,J o.n2,J 0] 32)) wr.heap.size 32 [J o.s2,J o.n2,J 0]):=qh (Whole.new_ _ _ [_,_,_]);have M8:=qh (Xd.out.al (δ #[J o.s2,J o.n2,J 0] 32));have Th:=qh (Ym.out.al (δ #[J o.s2,J o.n2,J 0] 32));obtain⟨W4,EK⟩:=ay (wr.alloc (δ #[J o.s2,J o.n2,J 0] 32));obtain⟨bd,Zb⟩:=ay wr.heap.size;rw[EK] at kZ KZ sm M8 Th ⊢;rw[Zb] at sm ⊢;clear EK Zb HS HK Xd Ym;have c60:=M8.out.cell (i:=0) rfl;have c61:=M8.out.cell (i:=1) rfl;have c62:=M8.out.cell (i:=2) rfl;go_upto_region 16 with fail
    have gI:=qh (ax W4 (δ #[J sd.1,J sd.2.1,J sd.2.2] 32));have vD:=qh (sm.out.al (δ #[J sd.1,J sd.2.1,J sd.2.2] 32));have KM:=qh (Th.out.al (δ #[J sd.1,J sd.2.1,J sd.2.2] 32));have vG:Hid (Whole (W4.alloc (δ #[J sd.1,J sd.2.1,J sd.2.2] 32)) W4.heap.size 32 [J sd.1,J sd.2.1,J sd.2.2]):=qh (Whole.new_ _ _ [_,_,_]);have QY:Hid (bd≠W4.heap.size):=qh (by have:=sm.out.lt;omega);obtain⟨W5,xo⟩:=ay (W4.alloc (δ #[J sd.1,J sd.2.1,J sd.2.2] 32));obtain⟨bt,Lf⟩:=ay W4.heap.size;have Q4:=qh Lf;rw[xo] at gI vD KM vG ⊢;rw[Lf] at gI vG QY ⊢;clear xo Lf sm M8 Th c60 c61 c62;have d50:=vD.out.cell (i:=0) rfl;have d51:=vD.out.cell (i:=1) rfl;have d52:=vD.out.cell (i:=2) rfl;have Ys:=KM.out.cell (i:=0) rfl;have Yx:=KM.out.cell (i:=1) rfl;have YA:=KM.out.cell (i:=2) rfl;have t50:=vG.out.cell (i:=0) rfl;have t51:=vG.out.cell (i:=1) rfl;have t52:=vG.out.cell (i:=2) rfl;have Ww:=vG.out.free 0;have Xe:=vG.out.free 1;have YY:=vG.out.free 2;have qd:∀X:ο,(binOp .eql 32 (φ #[J o.s2,J o.n2,J 0]) (φ #[J gd.1,J gd.2.1,J gd.2.2])).run η X=.ok (Β (decide (aU (cQ o) 0=gd))) X:=qG _ _ _ _ _ _
    obtain⟨td,N4⟩:=ay (tf 0);have Kw:=(HTf.out 0).symm.trans N4;cases EJ:decide (aU (cQ o) 0=gd) with
    |true=>
     rw[EJ] at qd;rw[if_pos (of_decide_eq_true EJ)] at Kw;have Tp:=qh Kw;have Va:=qh N4;clear Kw N4 EJ;go_upto_region 18 with fail
     have kF:=qh (((gI.out.setCell (p:=⟨bt,0,ε⟩) (Δ _) (J 0)).setCell (p:=⟨bt,1,ε⟩) (Δ _) (J 0)).setCell (p:=⟨bt,2,ε⟩) (Δ _) (J 0));have wx:=qh (((vD.out.far (p:=⟨bt,0,ε⟩) QY.out (J 0)).far (p:=⟨bt,1,ε⟩) QY.out (J 0)).far (p:=⟨bt,2,ε⟩) QY.out (J 0));have oT:=qh (((vG.out.set_ 0 (J 0)).set_ 1 (J 0)).set_ 2 (J 0));have yG:=qh (kZ.out.bl (by rw[Q4.out];exact kF.out));have ru:=qh (KZ.out.trans (aY.of_below (by rw[Q4.out];exact kF.out)));obtain⟨W6,SU⟩:=ay (((W5.setCell ⟨bt,0,ε⟩ (J 0)).setCell ⟨bt,1,ε⟩ (J 0)).setCell ⟨bt,2,ε⟩ (J 0));rw[SU] at kF wx oT yG ru ⊢;clear SU;clear qd d50 d51 d52 Ys Yx YA t50 t51 t52 Ww Xe YY gI vD KM vG kZ KZ;have d60:=wx.out.cell (i:=0) rfl;have d61:=wx.out.cell (i:=1) rfl;have d62:=wx.out.cell (i:=2) rfl;have t60:=oT.out.cell (i:=0) rfl;have t61:=oT.out.cell (i:=1) rfl;have t62:=oT.out.cell (i:=2) rfl
     go_wp2_with (first
      |(go_at_call 119
        refine(tR yG.out (aU (cQ o) 0) zD RS.out.2 RS.out.1).mono ?_
        rintro e w9 ⟨rfl,C9,r9,oO,DO,Ip,zH,R7⟩
        have wD:Hid (dK w lo g A9 (n - 1) c9 Us ZH (m - 1) ZA (Es.eraseIdx je) C9 r9 oO (gJ (cQ o) tf G 1) w9):=qh (by
         have e:gJ (cQ o) tf G 1=dJ (gJ (cQ o) tf G 0) (aU (cQ o) 0,zD):=by
          show dJ (gJ (cQ o) tf G 0) (aU (cQ o) 0,tf 0)=_;rw[Va.out,←Tp.out]
         rw[e];exact DO)
        have I4:=qh (ru.out.trans zH);clear DO Ip zH R7 yG ru wx oT kF))
     go_roundw
     case rel=>exact⟨1,_,_,_,by omega,by go_num,wD,I4⟩
     case measure=>simp[intOf]
    |false=>
     rw[EJ] at qd;rw[if_neg (of_decide_eq_false EJ)] at Kw;have Tp:=qh Kw;have Va:=qh N4;clear Kw N4 EJ;go_upto_region 18 with fail
     have kF:=gI;have wx:=vD;have oT:=vG;have yG:=qh (kZ.out.bl (by rw[Q4.out];exact kF.out));have ru:=qh (KZ.out.trans (aY.of_below (by rw[Q4.out];exact kF.out)));clear qd d50 d51 d52 Ys Yx YA t50 t51 t52 Ww Xe YY gI vD KM vG kZ KZ;have d60:=wx.out.cell (i:=0) rfl;have d61:=wx.out.cell (i:=1) rfl;have d62:=wx.out.cell (i:=2) rfl;have t60:=oT.out.cell (i:=0) rfl;have t61:=oT.out.cell (i:=1) rfl;have t62:=oT.out.cell (i:=2) rfl
     go_wp2_with (first
      |(go_at_call 119
        refine(tR yG.out (aU (cQ o) 0) sd RS.out.2 RS.out.1).mono ?_
        rintro e w9 ⟨rfl,C9,r9,oO,DO,Ip,zH,R7⟩
        have wD:Hid (dK w lo g A9 (n - 1) c9 Us ZH (m - 1) ZA (Es.eraseIdx je) C9 r9 oO (gJ (cQ o) tf G 1) w9):=qh (by
         have e:gJ (cQ o) tf G 1=dJ (gJ (cQ o) tf G 0) (aU (cQ o) 0,sd):=by
          show dJ (gJ (cQ o) tf G 0) (aU (cQ o) 0,tf 0)=_;rw[Va.out,←Tp.out]
         rw[e];exact DO)
        have I4:=qh (ru.out.trans zH);clear DO Ip zH R7 yG ru wx oT kF))
     go_roundw
     case rel=>exact⟨1,_,_,_,by omega,by go_num,wD,I4⟩
     case measure=>simp[intOf]
   ·clear fh;have ix1:∀w:ο,(Instr.index 141 (φ #[J o.s2,J o.n2,J 0,J o.s2,J o.n2,J 1]) (J 1)).run η w=.ok (φ #[J o.s2,J o.n2,J 1]) w:=fun _=>by kernel_rfl
    have Xd:=qh (HK.out.w _ _ _ H6.out N6.out (by decide) (by decide) (by decide));have Ym:=qh (HK.out.w _ _ _ H7.out N7.out (by decide) (by decide) (by decide));go_upto_region 15 with fail
    have kZ:=qh (HS.out.al (δ #[J o.s2,J o.n2,J 1] 32));have KZ:=qh (HK.out.trans (aY.of_below (ax wr (δ #[J o.s2,J o.n2,J 1] 32))));have sm:Hid (Whole (wr.alloc (δ #[J o.s2,J o.n2,J 1] 32)) wr.heap.size 32 [J o.s2,J o.n2,J 1]):=qh (Whole.new_ _ _ [_,_,_]);have M8:=qh (Xd.out.al (δ #[J o.s2,J o.n2,J 1] 32));have Th:=qh (Ym.out.al (δ #[J o.s2,J o.n2,J 1] 32));obtain⟨W4,EK⟩:=ay (wr.alloc (δ #[J o.s2,J o.n2,J 1] 32));obtain⟨bd,Zb⟩:=ay wr.heap.size;rw[EK] at kZ KZ sm M8 Th ⊢;rw[Zb] at sm ⊢;clear EK Zb HS HK Xd Ym;have c60:=M8.out.cell (i:=0) rfl;have c61:=M8.out.cell (i:=1) rfl;have c62:=M8.out.cell (i:=2) rfl;go_upto_region 16 with fail
    have gI:=qh (ax W4 (δ #[J sd.1,J sd.2.1,J sd.2.2] 32));have vD:=qh (sm.out.al (δ #[J sd.1,J sd.2.1,J sd.2.2] 32));have KM:=qh (Th.out.al (δ #[J sd.1,J sd.2.1,J sd.2.2] 32));have vG:Hid (Whole (W4.alloc (δ #[J sd.1,J sd.2.1,J sd.2.2] 32)) W4.heap.size 32 [J sd.1,J sd.2.1,J sd.2.2]):=qh (Whole.new_ _ _ [_,_,_]);have QY:Hid (bd≠W4.heap.size):=qh (by have:=sm.out.lt;omega);obtain⟨W5,xo⟩:=ay (W4.alloc (δ #[J sd.1,J sd.2.1,J sd.2.2] 32));obtain⟨bt,Lf⟩:=ay W4.heap.size;have Q4:=qh Lf;rw[xo] at gI vD KM vG ⊢;rw[Lf] at gI vG QY ⊢;clear xo Lf sm M8 Th c60 c61 c62;have d50:=vD.out.cell (i:=0) rfl;have d51:=vD.out.cell (i:=1) rfl;have d52:=vD.out.cell (i:=2) rfl;have Ys:=KM.out.cell (i:=0) rfl;have Yx:=KM.out.cell (i:=1) rfl;have YA:=KM.out.cell (i:=2) rfl;have t50:=vG.out.cell (i:=0) rfl;have t51:=vG.out.cell (i:=1) rfl;have t52:=vG.out.cell (i:=2) rfl;have Ww:=vG.out.free 0;have Xe:=vG.out.free 1;have YY:=vG.out.free 2;have qd:∀X:ο,(binOp .eql 32 (φ #[J o.s2,J o.n2,J 1]) (φ #[J gd.1,J gd.2.1,J gd.2.2])).run η X=.ok (Β (decide (aU (cQ o) 1=gd))) X:=qG _ _ _ _ _ _
    obtain⟨td,N4⟩:=ay (tf 1);have Kw:=(HTf.out 1).symm.trans N4;cases EJ:decide (aU (cQ o) 1=gd) with
    |true=>
     rw[EJ] at qd;rw[if_pos (of_decide_eq_true EJ)] at Kw;have Tp:=qh Kw;have Va:=qh N4;clear Kw N4 EJ;go_upto_region 18 with fail
     have kF:=qh (((gI.out.setCell (p:=⟨bt,0,ε⟩) (Δ _) (J 0)).setCell (p:=⟨bt,1,ε⟩) (Δ _) (J 0)).setCell (p:=⟨bt,2,ε⟩) (Δ _) (J 0));have wx:=qh (((vD.out.far (p:=⟨bt,0,ε⟩) QY.out (J 0)).far (p:=⟨bt,1,ε⟩) QY.out (J 0)).far (p:=⟨bt,2,ε⟩) QY.out (J 0));have oT:=qh (((vG.out.set_ 0 (J 0)).set_ 1 (J 0)).set_ 2 (J 0));have yG:=qh (kZ.out.bl (by rw[Q4.out];exact kF.out));have ru:=qh (KZ.out.trans (aY.of_below (by rw[Q4.out];exact kF.out)));obtain⟨W6,SU⟩:=ay (((W5.setCell ⟨bt,0,ε⟩ (J 0)).setCell ⟨bt,1,ε⟩ (J 0)).setCell ⟨bt,2,ε⟩ (J 0));rw[SU] at kF wx oT yG ru ⊢;clear SU;clear qd d50 d51 d52 Ys Yx YA t50 t51 t52 Ww Xe YY gI vD KM vG kZ KZ;have d60:=wx.out.cell (i:=0) rfl;have d61:=wx.out.cell (i:=1) rfl;have d62:=wx.out.cell (i:=2) rfl;have t60:=oT.out.cell (i:=0) rfl;have t61:=oT.out.cell (i:=1) rfl;have t62:=oT.out.cell (i:=2) rfl
     go_wp2_with (first
      |(go_at_call 119
        refine(tR yG.out (aU (cQ o) 1) zD RS.out.2 RS.out.1).mono ?_
        rintro e w9 ⟨rfl,C9,r9,oO,DO,Ip,zH,R7⟩
        have wD:Hid (dK w lo g A9 (n - 1) c9 Us ZH (m - 1) ZA (Es.eraseIdx je) C9 r9 oO (gJ (cQ o) tf G 2) w9):=qh (by
         have e:gJ (cQ o) tf G 2=dJ (gJ (cQ o) tf G 1) (aU (cQ o) 1,zD):=by
          show dJ (gJ (cQ o) tf G 1) (aU (cQ o) 1,tf 1)=_;rw[Va.out,←Tp.out]
         rw[e];exact DO)
        have I4:=qh (ru.out.trans zH);clear DO Ip zH R7 yG ru wx oT kF))
     go_roundw
     case rel=>exact⟨2,_,_,_,by omega,by go_num,wD,I4⟩
     case measure=>simp[intOf]
    |false=>
     rw[EJ] at qd;rw[if_neg (of_decide_eq_false EJ)] at Kw;have Tp:=qh Kw;have Va:=qh N4;clear Kw N4 EJ;go_upto_region 18 with fail
     have kF:=gI;have wx:=vD;have oT:=vG;have yG:=qh (kZ.out.bl (by rw[Q4.out];exact kF.out));have ru:=qh (KZ.out.trans (aY.of_below (by rw[Q4.out];exact kF.out)));clear qd d50 d51 d52 Ys Yx YA t50 t51 t52 Ww Xe YY gI vD KM vG kZ KZ;have d60:=wx.out.cell (i:=0) rfl;have d61:=wx.out.cell (i:=1) rfl;have d62:=wx.out.cell (i:=2) rfl;have t60:=oT.out.cell (i:=0) rfl;have t61:=oT.out.cell (i:=1) rfl;have t62:=oT.out.cell (i:=2) rfl
     go_wp2_with (first
      |(go_at_call 119
        refine(tR yG.out (aU (cQ o) 1) sd RS.out.2 RS.out.1).mono ?_
        rintro e w9 ⟨rfl,C9,r9,oO,DO,Ip,zH,R7⟩
        have wD:Hid (dK w lo g A9 (n - 1) c9 Us ZH (m - 1) ZA (Es.eraseIdx je) C9 r9 oO (gJ (cQ o) tf G 2) w9):=qh (by
         have e:gJ (cQ o) tf G 2=dJ (gJ (cQ o) tf G 1) (aU (cQ o) 1,sd):=by
          show dJ (gJ (cQ o) tf G 1) (aU (cQ o) 1,tf 1)=_;rw[Va.out,←Tp.out]
         rw[e];exact DO)
        have I4:=qh (ru.out.trans zH);clear DO Ip zH R7 yG ru wx oT kF))
     go_roundw
     case rel=>exact⟨2,_,_,_,by omega,by go_num,wD,I4⟩
     case measure=>simp[intOf]
   ·have KZ:=qh (ZT.out.trans HK.out);go_wp2;go_ret;exact fX.yes HR.out rfl KZ.out HS.out (by rw[abM.out,Tt.out,EG.out])
end
theorem fA.linked {S:SS} (h:fA S) {x:Nm} (m1:bQ x.1 x.2=τ) (hE:bN S.2.1 x=ρ) (hl:¬40≤S.2.1.length) {a b:Nm × D} (ha:bo S.1 a.1=τ) (hb:bo S.1 b.1=τ):
 fA (dW (dW S.1 a (aU x 0)) b (aU x 1),iP S.2.1 (x,ByteArray.empty,0),S.2.2):=by
 refine⟨h.fit.link hE ha hb _,by show(dW _ _ _).length≤24;unfold dW;rw[fk,fk];exact h.v24,by show(iP _ _).length≤40;unfold iP;rw[kk];omega,h.g400,?_,fun e he=>?_,h.gr⟩
 ·exact kq (P:=fun x t=>bQ x.1 x.2=τ∧dX t.1=τ∧lF t.2=τ) (kq (P:=fun x t=>bQ x.1 x.2=τ∧dX t.1=τ∧lF t.2=τ) h.vm)
 ·rcases dx.1 he with rfl|he
  ·exact⟨m1,p7,pj⟩
  ·exact h.em e he
section
variable {w W:ο} {lo g:Nat} {A:Option Κ} {n c:Nat} {Vs:List VC} {B:Option Κ} {m k:Nat} {Es:List EC} {C:Option Κ} {r rc:Nat} {G:List Gn}
theorem LK (h:dK w lo g A n c Vs B m k Es C r rc G W) (hS:fA (Vs.map vS,Es,G)) (o:cZ):Ζ η 95 #[υ (ζ ⟨g,0,ε⟩),φ (aa o).toArray] W (fX w W lo g (cV (Vs.map vS,Es,G) (bp o) (cQ o))):=by
 cases h1:bo (Vs.map vS) (bp o) with
 |false=>exact Ud h hS o h1
 |true=>
  obtain⟨i,v,e1,e2,e3,-⟩:=ij (k:=fun v:VC=>v.1) (l:=Vs) ((fe Vs _).trans h1);exact Ve h hS o i v e2 e3 e1
theorem Mw (h:dK w lo g A n c Vs B m k Es C r rc G W) (hS:fA (Vs.map vS,Es,G)) (o:cZ) (hk:o.k=1):Ζ η 68 #[υ (ζ ⟨g,0,ε⟩),φ (aa o).toArray] W (fX w W lo g (cF (Vs.map vS,Es,G) o)):=by
 have zQ:=qh hS;have HR:Hid (cF (Vs.map vS,Es,G) o=jG (Vs.map vS,Es,G) (bp o)):=qh (by unfold cF;rw[if_pos hk]);clear hS;have H:=qh h;clear h;go_enter Tryz.func68,Tryz.ntmps68;go_upto_region 1 with fail
 obtain⟨W1,aO⟩:=ay (W.alloc (δ (aa o).toArray 36));have aI:Hid (Whole W1 W.heap.size 36 (aa o)):=qh (by rw[←aO];exact Whole.new_ _ _ _);have jq:Hid (dK w lo g A n c Vs B m k Es C r rc G W1):=qh (by rw[←aO];exact H.out.al _);have eA:Hid (σ W.heap.size W W1):=qh (by rw[←aO];exact ax _ _);rw[aO];clear aO H;have Nb:Hid (W.heap.size≠g):=qh (aI.out.ne_ jq.out.s (by decide));obtain⟨b0,bK⟩:=ay W.heap.size;rw[bK] at aI Nb ⊢;clear bK;have G8:=qh (aY.of_below (g:=g) eA.out);have WS:=aI.out.cell (i:=0) rfl;have lV:=aI.out.cell (i:=1) rfl;have lX:=aI.out.cell (i:=2) rfl;go_upto_region 3 with fail
 go_wp2_with (first
  |(go_at_call 90
    refine(Kn jq.out zQ.out o.s o.n).mono ?_
    rintro e w2 ⟨rfl,ar,EB,ze⟩;have bX:=qh ar;have yX:=qh ze;have vE:=qh (G8.out.trans EB);clear ar ze EB jq aI eA))
 go_ret;rw[HR.out];exact⟨rfl,bX.out,vE.out,yX.out⟩
theorem LN (h:dK w lo g A n c Vs B m k Es C r rc G W) (hS:fA (Vs.map vS,Es,G)) (o:cZ) (hk:o.k=2):Ζ η 68 #[υ (ζ ⟨g,0,ε⟩),φ (aa o).toArray] W (fX w W lo g (cF (Vs.map vS,Es,G) o)):=by
 have zQ:=qh hS;have HR:Hid (cF (Vs.map vS,Es,G) o=jD (Vs.map vS,Es,G) (bp o)):=qh (by unfold cF;rw[if_neg (by rw[hk];decide),if_pos hk]);clear hS;have H:=qh h;clear h;go_enter Tryz.func68,Tryz.ntmps68;go_upto_region 1 with fail
 obtain⟨W1,aO⟩:=ay (W.alloc (δ (aa o).toArray 36));have aI:Hid (Whole W1 W.heap.size 36 (aa o)):=qh (by rw[←aO];exact Whole.new_ _ _ _);have jq:Hid (dK w lo g A n c Vs B m k Es C r rc G W1):=qh (by rw[←aO];exact H.out.al _);have eA:Hid (σ W.heap.size W W1):=qh (by rw[←aO];exact ax _ _);rw[aO];clear aO H;have Nb:Hid (W.heap.size≠g):=qh (aI.out.ne_ jq.out.s (by decide));obtain⟨b0,bK⟩:=ay W.heap.size;rw[bK] at aI Nb ⊢;clear bK;have G8:=qh (aY.of_below (g:=g) eA.out);have WS:=aI.out.cell (i:=0) rfl;have lV:=aI.out.cell (i:=1) rfl;have lX:=aI.out.cell (i:=2) rfl;have n1:¬o.k=1:=by rw[hk];decide
 go_upto_region 5 with fail
 go_wp2_with (first
  |(go_at_call 91
    refine(JV jq.out zQ.out o.s o.n).mono ?_
    rintro e w2 ⟨rfl,ar,EB,ze⟩;have bX:=qh ar;have yX:=qh ze;have vE:=qh (G8.out.trans EB);clear ar ze EB jq aI eA))
 go_ret;rw[HR.out];exact⟨rfl,bX.out,vE.out,yX.out⟩
theorem MV (h:dK w lo g A n c Vs B m k Es C r rc G W) (hS:fA (Vs.map vS,Es,G)) (o:cZ) (hk:o.k=5) (hm:True∧(0≤o.m∧o.m≤3)):Ζ η 68 #[υ (ζ ⟨g,0,ε⟩),φ (aa o).toArray] W (fX w W lo g (cF (Vs.map vS,Es,G) o)):=by
 have zQ:=qh hS;have HM:=qh hm;clear hm;have HR:Hid (cF (Vs.map vS,Es,G) o=cx (Vs.map vS,Es,G) (bp o) (mV o) (cQ o) o.m):=qh (by unfold cF;rw[if_neg (by rw[hk];decide),if_neg (by rw[hk];decide),if_neg (by rw[hk];decide),if_neg (by rw[hk];decide),if_pos hk]);clear hS;have H:=qh h;clear h;go_enter Tryz.func68,Tryz.ntmps68;go_upto_region 1 with fail
 obtain⟨W1,aO⟩:=ay (W.alloc (δ (aa o).toArray 36));have aI:Hid (Whole W1 W.heap.size 36 (aa o)):=qh (by rw[←aO];exact Whole.new_ _ _ _);have jq:Hid (dK w lo g A n c Vs B m k Es C r rc G W1):=qh (by rw[←aO];exact H.out.al _);have eA:Hid (σ W.heap.size W W1):=qh (by rw[←aO];exact ax _ _);rw[aO];clear aO H;have Nb:Hid (W.heap.size≠g):=qh (aI.out.ne_ jq.out.s (by decide));obtain⟨b0,bK⟩:=ay W.heap.size;rw[bK] at aI Nb ⊢;clear bK;have G8:=qh (aY.of_below (g:=g) eA.out);have WS:=aI.out.cell (i:=0) rfl;have n1:¬o.k=1:=by rw[hk];decide
 have n2:¬o.k=2:=by rw[hk];decide
 have n3:¬o.k=3:=by rw[hk];decide
 have n4:¬o.k=4:=by rw[hk];decide
 go_upto_region 11 with fail
 clear WS;refine wp_region_lit ?_;refine ah (v:=?_) (ζ 32) rfl (by rfl) ?_ ?_;rotate_left
 ·go_simp;(try with_reducible rfl)
 simp only[ξ,aq,ak,ao];refine bw (ζ 33) rfl (by rfl) 36 (.tmp 3) rfl b0 rfl 36 (aa o) _ aI.out Tryz.underlying36 rfl (by kernel_rfl) ?_;simp only[ξ,aq,ak,ao]
 go_wp2_with (first
  |(go_at_call 94
    refine(OQ jq.out zQ.out o HM.out.2).mono ?_
    rintro e w2 ⟨rfl,ar,EB,ze⟩;have bX:=qh ar;have yX:=qh ze;have vE:=qh (G8.out.trans EB);clear ar ze EB jq aI eA))
 go_ret;rw[HR.out];exact⟨rfl,bX.out,vE.out,yX.out⟩
theorem MM (h:dK w lo g A n c Vs B m k Es C r rc G W) (hS:fA (Vs.map vS,Es,G)) (o:cZ) (hk:o.k=6):Ζ η 68 #[υ (ζ ⟨g,0,ε⟩),φ (aa o).toArray] W (fX w W lo g (cF (Vs.map vS,Es,G) o)):=by
 have zQ:=qh hS;have HR:Hid (cF (Vs.map vS,Es,G) o=cV (Vs.map vS,Es,G) (bp o) (cQ o)):=qh (by unfold cF;rw[if_neg (by rw[hk];decide),if_neg (by rw[hk];decide),if_neg (by rw[hk];decide),if_neg (by rw[hk];decide),if_neg (by rw[hk];decide),if_pos hk]);clear hS;have H:=qh h;clear h;go_enter Tryz.func68,Tryz.ntmps68;go_upto_region 1 with fail
 obtain⟨W1,aO⟩:=ay (W.alloc (δ (aa o).toArray 36));have aI:Hid (Whole W1 W.heap.size 36 (aa o)):=qh (by rw[←aO];exact Whole.new_ _ _ _);have jq:Hid (dK w lo g A n c Vs B m k Es C r rc G W1):=qh (by rw[←aO];exact H.out.al _);have eA:Hid (σ W.heap.size W W1):=qh (by rw[←aO];exact ax _ _);rw[aO];clear aO H;have Nb:Hid (W.heap.size≠g):=qh (aI.out.ne_ jq.out.s (by decide));obtain⟨b0,bK⟩:=ay W.heap.size;rw[bK] at aI Nb ⊢;clear bK;have G8:=qh (aY.of_below (g:=g) eA.out);have WS:=aI.out.cell (i:=0) rfl;have n1:¬o.k=1:=by rw[hk];decide
 have n2:¬o.k=2:=by rw[hk];decide
 have n3:¬o.k=3:=by rw[hk];decide
 have n4:¬o.k=4:=by rw[hk];decide
 have n5:¬o.k=5:=by rw[hk];decide
 go_upto_region 13 with fail
 clear WS;refine wp_region_lit ?_;refine ah (v:=?_) (ζ 37) rfl (by rfl) ?_ ?_;rotate_left
 ·go_simp;(try with_reducible rfl)
 simp only[ξ,aq,ak,ao];refine bw (ζ 38) rfl (by rfl) 36 (.tmp 3) rfl b0 rfl 36 (aa o) _ aI.out Tryz.underlying36 rfl (by kernel_rfl) ?_;simp only[ξ,aq,ak,ao]
 go_wp2_with (first
  |(go_at_call 95
    refine(LK jq.out zQ.out o).mono ?_
    rintro e w2 ⟨rfl,ar,EB,ze⟩;have bX:=qh ar;have yX:=qh ze;have vE:=qh (G8.out.trans EB);clear ar ze EB jq aI eA))
 go_ret;rw[HR.out];exact⟨rfl,bX.out,vE.out,yX.out⟩
end
structure yT (W:ο) (lo:Nat) (A:Option Κ) (n c:Nat) (Vs:List VC) (B:Option Κ) (m k:Nat) (Es:List EC) (C:Option Κ) (r rc:Nat) (G:List Gn):Prop where
 v:W.ownsRow lo 59 5 (γ A n c) n (aj vC Vs)
 e:W.ownsRow lo 67 4 (γ B m k) m (aj eC Es)
 rg:∀x∈Vs,rb W x.2.1
 gn:W.ownsRow lo 98 6 (γ C r rc) r (aj cB G)
theorem pZ {W:ο} {lo k n c g:Nat} {A:Option Κ} {T T':TypeId} {xs cs:List ψ} (h:W.ownsRow lo T k (γ A n c) n xs) (hw:Whole W g T' cs) (hT:T'≠T) (rI:Array ψ):(W.setRow g rI).ownsRow lo T k (γ A n c) n xs:=
 h.kept (jh (dV (S:=fun x=>x=g) rfl rI)) (.inr (Ne.symm (ch h hw hT)))
section
variable {W W':ο} {lo:Nat} {A:Option Κ} {n c:Nat} {Vs:List VC} {B:Option Κ} {m k:Nat} {Es:List EC} {C:Option Κ} {r rc:Nat} {G:List Gn}
theorem yT.up (h:yT W lo A n c Vs B m k Es C r rc G) (hb:σ W.heap.size W W'):yT W' lo A n c Vs B m k Es C r rc G:=
 ⟨bO h.v hb,bO h.e hb,fun x hx=>(h.rg x hx).bl hb,bO h.gn hb⟩
theorem yT.row {g:Nat} {cs:List ψ} (h:yT W lo A n c Vs B m k Es C r rc G) (hw:Whole W g 28 cs) (rI:Array ψ):yT (W.setRow g rI) lo A n c Vs B m k Es C r rc G:=
 ⟨pZ h.v hw (by decide) _,pZ h.e hw (by decide) _,fun x hx=>(h.rg x hx).row hw (by decide) _,pZ h.gn hw (by decide) _⟩
theorem Db (h:aR W A n c Vs B m k Es) (hg:aX W W.heap.size 6 C r rc (aj cB G)) (hn:n≤1000) (hm:m≤1000) (hr:r≤1000) (pd:∀x∈Vs,x.2.1.2.1≤1000000):
 Ζ η 55 #[φ #[γ A n c,γ B m k,γ C r rc]] W fun e w'=>∃A' c' B' k' C' rE Ws,e=.returned (φ #[γ A' n c',γ B' m k',γ C' r rE])∧yT w' W.heap.size A' n c' Ws B' m k' Es C' r rE G∧Ws.map vS=Vs.map vS∧σ W.heap.size W w':=by
 have kx:σ W.heap.size W ((W.alloc (δ #[γ A n c,γ B m k,γ C r rc] 28)).alloc (δ #[γ ε 0 0,γ ε 0 0,γ ε 0 0] 28)):=aE (ax W _) _;have HH:=qh (h.below kx);have HG:=qh (hg.bl kx);have HB:=qh kx;have aN:Hid (Whole ((W.alloc (δ #[γ A n c,γ B m k,γ C r rc] 28)).alloc (δ #[γ ε 0 0,γ ε 0 0,γ ε 0 0] 28)) W.heap.size 28 [γ A n c,γ B m k,γ C r rc]):=qh ((Whole.new_ _ _ [_,_,_]).al _);have mU:Hid (Whole ((W.alloc (δ #[γ A n c,γ B m k,γ C r rc] 28)).alloc (δ #[γ ε 0 0,γ ε 0 0,γ ε 0 0] 28)) (W.heap.size+1) 28 [γ ε 0 0,γ ε 0 0,γ ε 0 0]):=qh (Whole.new2 (by simp));have SD:=qh pd;clear h hg kx pd;go_enter Tryz.func55,Tryz.ntmps55;go_upto_region 1 with fail
 obtain⟨W0,bP⟩:=ay (((W.alloc (δ #[γ A n c,γ B m k,γ C r rc] 28)).alloc (δ #[γ ε 0 0,γ ε 0 0,γ ε 0 0] 28)));obtain⟨b2,dN⟩:=ay (W.heap.size+1);obtain⟨b1,cX⟩:=ay W.heap.size;have L2:Hid (W.heap.size≤b2):=qh (by omega);have n12:b1≠b2:=by omega
 rw[bP] at HH HG HB aN mU ⊢;rw[dN] at mU ⊢;rw[cX] at aN ⊢;clear bP cX dN;have fv:∀w',Kept (fun b=>b=b2) W0.drew w'→w'.cell? ⟨b1,0,ε⟩=ζ (γ A n c):=fun w' h=>h.cell (aN.out.dr.cell (i:=0) rfl) n12
 have ld1:∀w',Kept (fun b=>b=b2) W0.drew w'→w'.cell? ⟨b1,1,ε⟩=ζ (γ B m k):=fun w' h=>h.cell (aN.out.dr.cell (i:=1) rfl) n12
 have kO:∀w',Kept (fun b=>b=b2) W0.drew w'→w'.cell? ⟨b1,2,ε⟩=ζ (γ C r rc):=fun w' h=>h.cell (aN.out.dr.cell (i:=2) rfl) n12
 refine aw (fun b=>b=b2) (by kernel_rfl) ?_;refine ag 0 ?_;refine ag 1 ?_;refine ag 3 ?_;refine ag 4 ?_;refine sE 2 ?_;intro w' aB
 refine(Jq A n c Vs B m k Es w' (HH.out.below ((Θ _ W0).drew.trans (aB.mono (Δ _)))) (by omega) (by omega) SD.out).mono ?_
 rintro e w5 ⟨A5,c5,B5,k5,Ws,rfl,qU,Mo,fB⟩
 refine⟨_,rfl,Kept.of_below fB,?_⟩
 have cR:=((Θ _ W0).drew.trans (aB.mono (Δ _)));have fV:W.heap.size≤w'.heap.size:=Λ HB.out.size (Λ (by exact Δ _) aB.size);have Ep:=qh (fj qU.v fV);have HE5:=qh (fj qU.e fV);have SK:Hid (∀x∈Ws,rb w5 x.2.1):=qh (fun x hx=>rb.of_own (qU.r.own x hx));have P8:=qh Mo;have IJ:=qh ((HG.out.bl cR).bl fB);have VH:=qh ((mU.out.bl cR).bl fB);have gI:=qh (af (af HB.out cR) fB);clear aB cR fV qU Mo fB HH HG mU HB aN fv ld1 kO;simp only[ξ,aq,ak,ao];refine sE 5 ?_;intro w' aB
 refine(Jd C r rc (aj cB G) w' (IJ.out.bl aB) (cz cB j9 G) (by omega)).mono ?_
 rintro e w8 ⟨C8,uL,rfl,SQ⟩
 refine⟨_,rfl,Kept.of_below SQ.below,?_⟩
 have Dd:Hid (yT w8 W.heap.size A5 n c5 Ws B5 m k5 Es C8 r uL G):=qh ⟨bO (bO Ep.out aB) SQ.below,bO (bO HE5.out aB) SQ.below,fun x hx=>((SK.out x hx).bl aB).bl SQ.below,fj SQ.own (Λ gI.out.size aB.size)⟩;have rY:=qh ((VH.out.bl aB).bl SQ.below);have oR:=qh (af (af gI.out aB) SQ.below);clear aB SQ Ep HE5 SK IJ VH gI;simp only[ξ,aq,ak,ao];refine ag 6 ?_;refine kI 7 ?_;intro w' aB
 refine⟨w'.setRow b2 #[γ A5 n c5,γ B5 m k5,γ C8 r uL],bn 28 (.tmp 2) (.tmp 9) rfl b2 rfl [γ A5 n c5,γ B5 m k5,γ C8 r uL] rfl 28 [γ ε 0 0,γ ε 0 0,γ ε 0 0] (rY.out.bl aB) (by kernel_rfl) rfl (by simp[Τ]),dV (S:=fun b=>b=b2) rfl _,?_⟩
 have wD:=qh ((Dd.out.up aB).row (rY.out.bl aB) #[γ A5 n c5,γ B5 m k5,γ C8 r uL]);have zf:=qh (Whole.row (rY.out.bl aB) [γ A5 n c5,γ B5 m k5,γ C8 r uL]);have te:=qh (cC (af oR.out aB) L2.out #[γ A5 n c5,γ B5 m k5,γ C8 r uL]);obtain⟨V3,tL⟩:=ay (w'.setRow b2 #[γ A5 n c5,γ B5 m k5,γ C8 r uL]);rw[tL] at wD zf te ⊢;clear aB tL Dd rY oR;(try simp only[ξ,aq,ak,ao]);refine aD (by kernel_rfl) ?_ _;intro wa EN;have HSa:=qh (wD.out.up EN);have Iy:=qh (zf.out.bl EN);have zk:=qh (af te.out EN);clear EN wD zf te;go_wp2;exact N8 rfl b2 rfl Iy.out Tryz.underlying28 rfl (by kernel_rfl) rfl ⟨A5,c5,B5,k5,C8,uL,Ws,rfl,HSa.out,P8.out,zk.out⟩
end
end Go.Proofs.YtpdpbfmiahjiiaaGreat
