/- 'EditPlane' answers true for every row of edits: whatever is done the state may be and lies in the plane.
   No condition beyond the row's own. -/
import Derived.Test.YtpdpbfmiahjiiaaGreatPzA
import Derived.Test.YtpdpbfmiahjiiaaGreatPzF
import Derived.Test.YtpdpbfmiahjiiaaGreatPzI
import Derived.Test.YtpdpbfmiahjiiaaGreatPzJ
import Derived.Test.YtpdpbfmiahjiiaaGreatPzM
import Derived.Test.YtpdpbfmiahjiiaaGreatPzN
import Derived.Test.YtpdpbfmiahjiiaaGreatRows
set_option linter.unusedSectionVars false
set_option linter.unusedSimpArgs false
set_option linter.unusedVariables false
set_option maxRecDepth 100000
set_option maxHeartbeats 16000000
namespace Go.Proofs.YtpdpbfmiahjiiaaGreat
open Go.RowKit
open _root_.Go.Value renaming slice→γ,pointer→υ,agg→φ,oneCell'→Τ
open _root_.Go.Obj renaming cells→δ
open _root_.Option renaming none→ε,some→ζ
open _root_.Go.Proofs.Tryz renaming prog→η
open _root_.List renaming map_cons→ι,map_nil→π,mem_of_getElem?→ω,mem_cons→Η,not_mem_nil→Jbh
open _root_.Go.Act renaming put→ξ
open _root_.Go renaming World→ο,Value→ψ,Calls→Ζ,Addr→Κ,maxLen→Jap
open _root_.Bool renaming false→ρ,true→τ
open _root_.Go.RowKit renaming Below→σ
open _root_.Go.RowKit.Below renaming refl→Θ
open _root_.Nat renaming le_trans→Λ
open _root_.Prod.mk renaming injEq→Jba
abbrev ES:=Option Κ × Nat × Nat × List dR
def eSl (e:ES):List ψ:=[γ e.1 e.2.1 e.2.2.1]
theorem GA (e:ES):(eSl e).length=1:=rfl
theorem mh.nil_ (W:ο) (lo:Nat):mh W lo ε 0 0 [] ε 0 0 [] ε 0 0 []:=⟨World.ownsRow_nil _ _ _ _,World.ownsRow_nil _ _ _ _,fun x hx=>(by cases hx),World.ownsRow_nil _ _ _ _⟩
theorem mh.dr {W:ο} {lo:Nat} {A:Option Κ} {n c:Nat} {Vs:List VC} {B:Option Κ} {m k:Nat} {Es:List EC} {C:Option Κ} {r rc:Nat} {G:List Gn} (h:mh W lo A n c Vs B m k Es C r rc G):mh W.drew lo A n c Vs B m k Es C r rc G:=h.up ((Θ _ W).drew)
def yK (lo:Nat) (Q:SS→Prop) (v:ψ) (W:ο):Prop:=∃A n c Vs B m k Es C r rc G,v=φ #[γ A n c,γ B m k,γ C r rc]∧mh W lo A n c Vs B m k Es C r rc G∧Q (Vs.map vS,Es,G)
theorem yK.of {lo:Nat} {Q:SS→Prop} {W:ο} {A:Option Κ} {n c:Nat} {Vs:List VC} {B:Option Κ} {m k:Nat} {Es:List EC} {C:Option Κ} {r rc:Nat} {G:List Gn} (h:mh W lo A n c Vs B m k Es C r rc G) (q:Q (Vs.map vS,Es,G)):yK lo Q (φ #[γ A n c,γ B m k,γ C r rc]) W:=⟨A,n,c,Vs,B,m,k,Es,C,r,rc,G,rfl,h,q⟩
theorem yK.up {lo:Nat} {Q:SS→Prop} {v:ψ} {W W':ο} (h:yK lo Q v W) (hx:Ext W W'):yK lo Q v W':=by
 obtain⟨A,n,c,Vs,B,m,k,Es,C,r,rc,G,e,h1,h2⟩:=h;exact⟨A,n,c,Vs,B,m,k,Es,C,r,rc,G,e,h1.up hx,h2⟩
def nO (lo:Nat) (Q:SS→Prop) (x:Int) (v:ψ) (W:ο):Prop:=∃A n c Vs B m k Es C r rc G,v=.tuple #[φ #[γ A n c,γ B m k,γ C r rc],J x]∧mh W lo A n c Vs B m k Es C r rc G∧Q (Vs.map vS,Es,G)
theorem nO.of {lo:Nat} {Q:SS→Prop} {x:Int} {W:ο} {A:Option Κ} {n c:Nat} {Vs:List VC} {B:Option Κ} {m k:Nat} {Es:List EC} {C:Option Κ} {r rc:Nat} {G:List Gn} (h:mh W lo A n c Vs B m k Es C r rc G) (q:Q (Vs.map vS,Es,G)):nO lo Q x (.tuple #[φ #[γ A n c,γ B m k,γ C r rc],J x]) W:=⟨A,n,c,Vs,B,m,k,Es,C,r,rc,G,rfl,h,q⟩
theorem nO.up {lo:Nat} {Q:SS→Prop} {x:Int} {v:ψ} {W W':ο} (h:nO lo Q x v W) (hx:Ext W W'):nO lo Q x v W':=by
 obtain⟨A,n,c,Vs,B,m,k,Es,C,r,rc,G,e,h1,h2⟩:=h;exact⟨A,n,c,Vs,B,m,k,Es,C,r,rc,G,e,h1.up hx,h2⟩
def MY (lo n m:Nat) (V:List VS) (Es:List EC) (v:ψ) (W:ο):Prop:=∃A c B k Ws,v=φ #[γ A n c,γ B m k]∧uz W lo A n c Ws B m k Es∧Ws.map vS=V
theorem MY.of {lo n m:Nat} {V:List VS} {Es:List EC} {W:ο} {A:Option Κ} {c:Nat} {B:Option Κ} {k:Nat} {Ws:List VC} (h:uz W lo A n c Ws B m k Es) (q:Ws.map vS=V):MY lo n m V Es (φ #[γ A n c,γ B m k]) W:=⟨A,c,B,k,Ws,rfl,h,q⟩
theorem MY.up {lo n m:Nat} {V:List VS} {Es:List EC} {v:ψ} {W W':ο} (h:MY lo n m V Es v W) (hx:Ext W W'):MY lo n m V Es v W':=by
 obtain⟨A,c,B,k,Ws,e,h1,h2⟩:=h;exact⟨A,c,B,k,Ws,e,h1.bl hx,h2⟩
theorem mh.lens {W:ο} {lo:Nat} {A:Option Κ} {n c:Nat} {Vs:List VC} {B:Option Κ} {m k:Nat} {Es:List EC} {C:Option Κ} {r rc:Nat} {G:List Gn} (h:mh W lo A n c Vs B m k Es C r rc G) (hS:gD (Vs.map vS,Es,G)):n≤24∧m≤40∧r≤400∧∀x∈Vs,x.2.1.2.1≤1000000:=by
 have h1:Vs.length=n:=h.dg.v.rlen aS (by decide);have h2:Es.length=m:=h.dg.e.rlen bM (by decide);have h3:G.length=r:=h.gone.rlen bT (by decide);have h4:=hS.v24;have h5:Es.length≤40:=hS.e40;have h6:G.length≤400:=hS.g400;rw[List.length_map] at h4
 refine⟨by omega,by omega,by omega,fun x hx=>?_⟩
 have q1:=hS.short (vS x) (List.mem_map.2 ⟨x,hx,rfl⟩);have q2:x.2.1.2.2.2.length=x.2.1.2.1:=(h.rg x hx).2.1.dlen;have q3:x.2.1.2.2.2.length≤80:=q1;omega
theorem nA {lo lo':Nat} {A B C A' B' C':Option Κ} {n c m k r rc n' c' m' k' r' iv:Nat} {Vs Ws:List VC} {Es Fs:List EC} {G H:List Gn} (W:ο) (h:mh W lo A n c Vs B m k Es C r rc G) (h':mh W lo' A' n' c' Ws B' m' k' Fs C' r' iv H) (e:(Vs.map vS,Es,G)=(Ws.map vS,Fs,H)) (hn:n≤1000000) (hm:m≤1000000) (hr:r≤1000000):
 Ζ η 16 #[φ #[γ A n c,γ B m k,γ C r rc],φ #[γ A' n' c',γ B' m' k',γ C' r' iv]] W fun e w'=>e=.returned (.bool τ)∧σ W.heap.size W w':=by
 have:=Ca W h.dg h.gone h'.dg h'.gone hn hm hr
 rw[Jba,Jba] at e;rw[decide_eq_true e] at this;exact this
theorem yh.may7 {Vs:List VC} {Es:List EC} {G:List Gn} (h:yh (Vs.map vS,Es,G)):NX Vs Es=0:=by
 unfold NX;rw[if_pos ((IA Vs Es).2 (h.ok.formed rfl)),if_pos (mD.1 h.pl)]
theorem IT (Al:Option Κ) (nl cl:Nat) (Ls:List ES) (w:ο) (h:bg w w.heap.size 1 Al nl cl (ah eSl Ls)) (hn:nl≤Jap) (he:∀e∈Ls,bg w w.heap.size 20 e.1 e.2.1 e.2.2.1 (ah ak e.2.2.2)∧e.2.1≤Jap):
 Ζ η 5 #[γ Al nl cl] w fun e w'=>e=.returned (.bool τ)∧σ w.heap.size w w':=by
 obtain⟨iG,sU,ac1,ac2,adb⟩:=aW mP;have HR:=qh h;have HE:=qh he;have Hl:Hid (Ls.length=nl):=qh (h.rlen GA (by decide));have bw:Hid (σ w.heap.size w w):=qh (Θ _ _);clear h he;go_enter Tryz.func5,Tryz.ntmps5
 go_upto_region 3 with (first
  |(go_at_call 12
    refine(CA _).mono ?_
    rintro e w1 ⟨rfl,hb⟩;have bE:=qh (ag bw.out hb);clear hb bw)
  |(go_at_call 17
    refine(uG _).mono ?_
    rintro e w2 ⟨rfl,hb⟩;have bG:=qh (ag bE.out hb);clear hb bE))
 have aZ:=qh (Whole.new_ w2 28 [γ ε 0 0,γ ε 0 0,γ ε 0 0]);have bB:=qh (aI bG.out (δ #[γ ε 0 0,γ ε 0 0,γ ε 0 0] 28));obtain⟨w3,gw3⟩:=aB (w2.alloc (δ #[γ ε 0 0,γ ε 0 0,γ ε 0 0] 28));obtain⟨b4,BJ⟩:=aB w2.heap.size;rw[gw3] at aZ bB ⊢;rw[BJ] at aZ ⊢;have TL:Hid (w.heap.size≤b4):=qh (BJ▸bG.out.size);clear gw3 BJ bG;obtain⟨lo,Su⟩:=aB w.heap.size;have Glo:=qh Su;have gE:Hid (mh w3 lo ε 0 0 [] ε 0 0 [] ε 0 0 []):=qh (mh.nil_ _ _);have Ck:Hid (yh (([]:List VC).map vS,[],[])):=qh yh.nil_;clear Su;go_upto_region 4 with fail
 go_loopw [5] (fun vi wr=>∃(i:Nat) (A:Option Κ) (n c:Nat) (Vs:List VC) (B:Option Κ) (m k:Nat) (Es:List EC) (C:Option Κ) (r rc:Nat) (G:List Gn),i≤40∧i≤nl∧vi=J (i:Int)∧Hid (σ w.heap.size w wr)∧Hid (Whole wr b4 28 [γ A n c,γ B m k,γ C r rc])∧Hid (mh wr lo A n c Vs B m k Es C r rc G)∧Hid (yh (Vs.map vS,Es,G))) (fun vi _=>40 - (intOf vi).toNat)
 case atStart=>exact⟨0,ε,0,0,[],ε,0,0,[],ε,0,0,[],Nat.zero_le _,Nat.zero_le _,rfl,bB,aZ,gE,Ck⟩
 case round=>
  clear bB aZ gE Ck;obtain⟨i,A,n,c,Vs,B,m,k,Es,C,r,rc,G,amd,jm,rfl,HB,eY,HS,HO⟩:=hrel;obtain⟨wo,cS⟩:=aB wr;rw[cS] at HB eY HS ⊢;clear cS
  by_cases dz:i<nl∧i<40
  ·obtain⟨iQ,jd⟩:=dz;have KH:(i:Int)<(nl:Int):=by omega
   have Rj:(i:Int)<40:=by omega
   have BD:Ls[i]? =ζ (Ls[i]'(by have:=Hl.out;omega)):=List.getElem?_eq_getElem _;obtain⟨⟨Ae,ne,ce,Le⟩,ge0⟩:∃e,Ls[i]'(by have:=Hl.out;omega)=e:=⟨_,rfl⟩
   rw[ge0] at BD;obtain⟨bb,off,rfl,aY,a8⟩:=HR.out.place GA (by decide) (by omega);have q0:=a8 i _ BD 0 _ rfl;simp only[Addr.add_lit,Nat.add_zero,Nat.mul_one] at q0;have HQ:=qh q0;have KO:=qh (HE.out _ (ω BD)).1;have K4:=qh (HE.out _ (ω BD)).2;obtain⟨P4,RF,aao,fy⟩:=HS.out.lens HO.out.ok;have BG:=qh fy;have NI:Hid (lo≤wo.heap.size):=qh (by have:=Glo.out;rw[←this];exact HB.out.size);clear ge0 BD a8 q0 fy;go_upto_region 6 with fail
   have jB:Hid (∀y,Ext wo.drew y→y.cell? ⟨b4,0,ε⟩=ζ (γ A n c)∧y.cell? ⟨b4,1,ε⟩=ζ (γ B m k)∧y.cell? ⟨b4,2,ε⟩=ζ (γ C r rc)):=qh (fun y hy=>⟨(eY.out.dr.bl hy).cell (i:=0) rfl,(eY.out.dr.bl hy).cell (i:=1) rfl,(eY.out.dr.bl hy).cell (i:=2) rfl⟩)
   refine jI 9 (cw wo.heap.size) (tc [fun v W=>v=υ (ζ ⟨b4,0,ε⟩),fun v W=>v=φ #[γ A n c,γ B m k],fun v W=>MY lo n m (Vs.map vS) Es (v) (W),fun v W=>∃q,v=γ (ζ ⟨q,0,ε⟩) 0 0∧World.ownsRow (W) lo 98 6 (γ (ζ ⟨q,0,ε⟩) 0 0) 0 [],fun v W=>v=υ (ζ ⟨b4,2,ε⟩),fun v W=>v=γ C r rc,fun v W=>∃C' iv,v=γ C' r iv∧World.ownsRow (W) lo 98 6 (γ C' r iv) r (ah cZ G),fun v W=>yK lo (fun S=>S=(Vs.map vS,Es,G)) (v) (W),fun v W=>∃q,v=υ (ζ ⟨q,0,ε⟩)∧wo.heap.size≤q∧Whole (W) q 28 [γ ε 0 0,γ ε 0 0,γ ε 0 0]]) (Ext wo.drew) (by kernel_rfl) (by kernel_rfl) (by kernel_rfl) (by kernel_rfl) (by kernel_rfl) (jH (by
    intro Q hQ v w1 w2 h hx;simp only[Η,Jbh,or_false] at hQ;rcases hQ with rfl|rfl|rfl|rfl|rfl|rfl|rfl|rfl|rfl
    ·exact(fun v w1 w2 h hx=>h) v w1 w2 h hx
    ·exact(fun v w1 w2 h hx=>h) v w1 w2 h hx
    ·exact(fun v w1 w2 h hx=>MY.up h hx) v w1 w2 h hx
    ·exact(fun v w1 w2 h hx=>(by obtain⟨q,e,h1⟩:=h;exact⟨q,e,bo h1 hx⟩)) v w1 w2 h hx
    ·exact(fun v w1 w2 h hx=>h) v w1 w2 h hx
    ·exact(fun v w1 w2 h hx=>h) v w1 w2 h hx
    ·exact(fun v w1 w2 h hx=>(by obtain⟨q,q',e,h1⟩:=h;exact⟨q,q',e,bo h1 hx⟩)) v w1 w2 h hx
    ·exact(fun v w1 w2 h hx=>yK.up h hx) v w1 w2 h hx
    ·exact(fun v w1 w2 h hx=>(by obtain⟨q,e1,e2,e3⟩:=h;exact⟨q,e1,e2,e3.bl hx⟩)) v w1 w2 h hx)) (fun _ _ h k=>h.trans k) (Ext.refl _) ?_ ?_
   ·intro i Ef;have dF:i=0∨i=1∨i=2∨i=3∨i=4∨i=5∨i=6∨i=7∨i=8:=by omega
    rcases dF with rfl|rfl|rfl|rfl|rfl|rfl|rfl|rfl|rfl
    ·refine aH ?_;intro xf y hg aD;simp only[aE,ι,π,aj,ξ,aw,ar,aq];refine .inl ⟨by rfl,?_⟩;go_simp;exact⟨Ext.refl _,rfl⟩
    ·refine aH ?_;intro xf y hg aD;have d0:xf 0=υ (ζ ⟨b4,0,ε⟩):=aD 0 (by decide);obtain⟨qE,iQ,jd⟩:=jB.out _ hg;simp only[aE,ι,π,aj,ξ,aw,ar,aq];simp only[d0];refine .inl ⟨by rfl,?_⟩;go_simp;exact⟨Ext.refl _,rfl⟩
    ·refine aH ?_;intro xf y hg aD;have d1:xf 1=φ #[γ A n c,γ B m k]:=aD 1 (by decide);simp only[aE,ι,π,aj,ξ,aw,ar,aq];simp only[d1];refine .inl ⟨by rfl,cu (by go_simp;first|done|exact⟨rfl,rfl⟩|with_reducible rfl) ?_⟩
     refine(Gd A n c Vs B m k Es y ((HS.out.dr.up hg).dg) (by omega) (by omega) BG.out).mono ?_
     rintro e w2 ⟨A2,c2,B2,k2,Ws,rfl,qB,MA,hb⟩
     refine⟨_,rfl,hb,?_⟩
     show MY lo n m (Vs.map vS) Es ((_:ψ)) (w2);exact MY.of (qB.lo_ (Λ NI.out hg.size)) MA
    ·refine aH ?_;intro xf y hg aD;simp only[aE,ι,π,aj,ξ,aw,ar,aq];refine .inl ⟨by rfl,dZ (w':=y.alloc (δ #[] 98)) (by go_simp;first|done|exact rfl|exact⟨rfl,rfl⟩) (az _ _) ?_⟩;show ∃q,(_:ψ)=γ (ζ ⟨q,0,ε⟩) 0 0∧World.ownsRow (y.alloc (δ #[] 98)) lo 98 6 (γ (ζ ⟨q,0,ε⟩) 0 0) 0 []
     exact⟨y.heap.size,rfl,kk (junk:=[]) (show Whole (y.alloc (δ #[] 98)) y.heap.size 98 [] from Whole.new_ _ _ []) (Λ NI.out hg.size) rfl (Nat.le_refl _) (by decide) rfl⟩
    ·refine aH ?_;intro xf y hg aD;simp only[aE,ι,π,aj,ξ,aw,ar,aq];refine .inl ⟨by rfl,?_⟩;go_simp;exact⟨Ext.refl _,rfl⟩
    ·refine aH ?_;intro xf y hg aD;have d4:xf 4=υ (ζ ⟨b4,2,ε⟩):=aD 4 (by decide);obtain⟨qE,iQ,jd⟩:=jB.out _ hg;simp only[aE,ι,π,aj,ξ,aw,ar,aq];simp only[d4];refine .inl ⟨by rfl,?_⟩;go_simp;exact⟨Ext.refl _,rfl⟩
    ·refine aH ?_;intro xf y hg aD;obtain⟨q3,d3,Xf⟩:∃q,xf 3=γ (ζ ⟨q,0,ε⟩) 0 0∧World.ownsRow (y) lo 98 6 (γ (ζ ⟨q,0,ε⟩) 0 0) 0 []:=aD 3 (by decide)
     have d5:xf 5=γ C r rc:=aD 5 (by decide);obtain⟨A2,c2,B2,k2,Ws,d2,qB,MA⟩:MY lo n m (Vs.map vS) Es (xf 2) (y):=aD 2 (by decide);simp only[aE,ι,π,aj,ξ,aw,ar,aq];simp only[d3,d5,d2];obtain⟨C',iv,W',bV,ho,hb⟩:=J9 (P:=η) y 26 26 98 iG _ 6 48 lo q3 Tryz.underlying26 sU ac1 ac2 adb rfl (by decide) Xf (Λ NI.out hg.size) _ C r rc _ (aK (HS.out.dr.up hg).gn) (by unfold Jap;omega) (by omega);refine .inl ⟨by rfl,dZ (w':=W') (dt (by rfl) (by rfl) (by rfl) bV) hb ?_⟩;exact⟨_,_,rfl,ho⟩
    ·refine aH ?_;intro xf y hg aD;obtain⟨A2,c2,B2,k2,Ws,d2,qB,MA⟩:MY lo n m (Vs.map vS) Es (xf 2) (y):=aD 2 (by decide);obtain⟨C6,rc6,d6,ho6⟩:∃C' iv,xf 6=γ C' r iv∧World.ownsRow (y) lo 98 6 (γ C' r iv) r (ah cZ G):=aD 6 (by decide)
     simp only[aE,ι,π,aj,ξ,aw,ar,aq];simp only[d2,d6];refine .inl ⟨by rfl,?_⟩;go_simp
     refine⟨Ext.refl _,?_⟩
     show yK lo (fun S=>S=(Vs.map vS,Es,G)) ((_:ψ)) (y);exact yK.of ⟨qB.v,qB.e,fun x hx=>ko.of_own (qB.r x hx),ho6⟩ (by rw[MA])
    ·refine aH ?_;intro xf y hg aD;simp only[aE,ι,π,aj,ξ,aw,ar,aq];refine .inl ⟨by rfl,dZ (w':=y.alloc (δ #[γ ε 0 0,γ ε 0 0,γ ε 0 0] 28)) (by go_simp;first|done|exact rfl|exact⟨rfl,rfl⟩) (az _ _) ?_⟩;show ∃q,(_:ψ)=υ (ζ ⟨q,0,ε⟩)∧wo.heap.size≤q∧Whole (y.alloc (δ #[γ ε 0 0,γ ε 0 0,γ ε 0 0] 28)) q 28 [γ ε 0 0,γ ε 0 0,γ ε 0 0]
     exact⟨y.heap.size,rfl,hg.size,Whole.new_ _ _ [γ ε 0 0,γ ε 0 0,γ ε 0 0]⟩
   intro xf y hg aX;obtain⟨A7,n7,c7,V7,B7,m7,k7,E7,C7,r7,LU,G7,d7,ye,Xt⟩:yK lo (fun S=>S=(Vs.map vS,Es,G)) (xf 7) (y):=aX 7 (by decide);obtain⟨ga,d8,hla,Pb⟩:∃q,xf 8=υ (ζ ⟨q,0,ε⟩)∧wo.heap.size≤q∧Whole (y) q 28 [γ ε 0 0,γ ε 0 0,γ ε 0 0]:=aX 8 (by decide)
   simp only[aE,ι,π,aj,ξ,aw,ar,aq];simp only[d7,d8];clear aX d7 d8;have pT:=qh ye;have HE7:=qh Xt;clear ye Xt;have o9:=qh Pb;have qH:=qh (ag (aN (Θ _ wo)) hg);have Jk:Hid (wo.heap.size≤ga):=qh hla;clear hla Pb;refine gI 9 ?_;intro w' aC
   refine⟨w'.setRow ga #[γ A7 n7 c7,γ B7 m7 k7,γ C7 r7 LU],aR 28 (.tmp 6) (.tmp 32) rfl ga rfl [γ A7 n7 c7,γ B7 m7 k7,γ C7 r7 LU] rfl 28 [γ ε 0 0,γ ε 0 0,γ ε 0 0] (o9.out.bl aC) (by kernel_rfl) rfl (by simp[Τ]),bN (show wo.heap.size≤ga from Jk.out) _,?_⟩
   have qP:Hid (Whole (w'.setRow ga #[γ A7 n7 c7,γ B7 m7 k7,γ C7 r7 LU]) ga 28 [γ A7 n7 c7,γ B7 m7 k7,γ C7 r7 LU]):=qh (Whole.row (o9.out.bl aC) [γ A7 n7 c7,γ B7 m7 k7,γ C7 r7 LU]);have kn:Hid (σ wo.heap.size wo (w'.setRow ga #[γ A7 n7 c7,γ B7 m7 k7,γ C7 r7 LU])):=qh (bH (ag qH.out aC) Jk.out _);have NG:=qh ((pT.out.up aC).row (o9.out.bl aC) #[γ A7 n7 c7,γ B7 m7 k7,γ C7 r7 LU]);obtain⟨V1,fD⟩:=aB (w'.setRow ga #[γ A7 n7 c7,γ B7 m7 k7,γ C7 r7 LU]);rw[fD] at qP kn NG ⊢;clear aC fD o9 qH;refine aF (by kernel_rfl) ?_ _;intro W8 cg;have uP:=qh (qP.out.bl cg);have lX:=qh (ag kn.out cg);have pT:=qh (NG.out.up cg);clear NG;clear cg qP kn;have MP:=qh (ag HB.out lX.out);have vB:=qh (eY.out.bl lX.out);have Mj:=qh (HS.out.up lX.out);clear HB eY HS lX Jk jB;obtain⟨wp,SH⟩:=aB W8;rw[SH] at MP vB Mj uP pT ⊢;clear SH W8 NI;have HB:=MP;clear MP;have eY:=vB;clear vB;have HS:=Mj;clear Mj;obtain⟨wo,cS⟩:=aB wp;rw[cS] at HB eY HS uP pT ⊢;clear cS wp;go_upto_region 7 with fail
   have NI:Hid (lo≤wo.heap.size):=qh (by have:=Glo.out;rw[←this];exact HB.out.size);obtain⟨⟨T,x⟩,gx⟩:∃z,la (Vs.map vS,Es,G) (Le.take 8)=z:=⟨_,rfl⟩
   have Wu:Hid (tw (Vs.map vS,Es,G) (Le.take 8)=if x=0 then T else(Vs.map vS,Es,G)):=qh (by unfold tw;rw[gx]);have HAp:Hid (∀y,mh y lo A n c Vs B m k Es C r rc G→∀n',bg y y.heap.size 20 Ae n' ce (ah ak (Le.take 8))→n'≤8→Ζ η 18 #[φ #[γ A n c,γ B m k,γ C r rc],φ #[γ Ae n' ce]] y (wZ y (T,x))):=qh (fun y hy n' hr h8=>gx▸pd hy.dg hy.gone HO.out.ok Ae n' ce _ hr (by unfold Jap;omega));have HTr:Hid (∀y,mh y lo A n c Vs B m k Es C r rc G→∀n',bg y y.heap.size 20 Ae n' ce (ah ak (Le.take 8))→n'≤8→Ζ η 21 #[φ #[γ A n c,γ B m k,γ C r rc],φ #[γ Ae n' ce]] y (Y8 y (tw (Vs.map vS,Es,G) (Le.take 8)))):=qh (fun y hy n' hr h8=>JA hy.dg hy.gone HO.out.ok Ae n' ce _ hr (by unfold Jap;omega));have Sj:Hid (∀y,Ext wo.drew y→Ζ η 19 #[φ #[γ Ae ne ce]] y fun e w'=>∃n',e=.returned (φ #[γ Ae n' ce])∧bg w' w'.heap.size 20 Ae n' ce (ah ak (Le.take 8))∧n'≤8∧σ y.heap.size y w'):=qh (fun y hy=>za Ae ne ce Le y (KO.out.bl ((aN HB.out).trans (hy.mono HB.out.size))) K4.out);clear gx;have jB:Hid (∀y,Ext wo.drew y→y.cell? ⟨b4,0,ε⟩=ζ (γ A n c)∧y.cell? ⟨b4,1,ε⟩=ζ (γ B m k)∧y.cell? ⟨b4,2,ε⟩=ζ (γ C r rc)∧y.cell? ⟨bb,off+i,ε⟩=ζ (γ Ae ne ce)):=qh (fun y hy=>⟨(eY.out.dr.bl hy).cell (i:=0) rfl,(eY.out.dr.bl hy).cell (i:=1) rfl,(eY.out.dr.bl hy).cell (i:=2) rfl,((aN HB.out).trans (hy.mono (HB.out.size))).cell aY|>.trans HQ.out⟩)
   refine cJ 11 9 (cw wo.heap.size) (tc [fun v W=>v=φ #[γ A n c,γ B m k,γ C r rc],fun v W=>v=γ (ζ ⟨bb,off,ε⟩) nl cl,fun v W=>v=J (i:Int),fun v W=>v=υ (ζ ⟨bb,off+i,ε⟩),fun v W=>v=φ #[γ Ae ne ce],fun v W=>∃n',v=φ #[γ Ae n' ce]∧bg W (World.heap W).size 20 Ae n' ce (ah ak (Le.take 8))∧n'≤8,fun v W=>nO lo (fun S=>x=0→S=T) x (v) (W),fun v W=>nO lo (fun S=>x=0→S=T) x (v) (W),fun v W=>yK lo (fun S=>x=0→S=T) (v) (W),fun v W=>v=J x,fun v W=>∃q,v=υ (ζ ⟨q,0,ε⟩)∧wo.heap.size≤q∧Whole (W) q 28 [γ ε 0 0,γ ε 0 0,γ ε 0 0]]) (Ext wo.drew) (by kernel_rfl) (by kernel_rfl) (by kernel_rfl) (by kernel_rfl) (by kernel_rfl) (by kernel_rfl) (by simp only[List.getElem?_toArray,List.getElem?_cons_succ,List.getElem?_cons_zero];exact rfl) (by kernel_rfl) (by kernel_rfl) (by kernel_rfl) ?_ (jH (by
    intro Q hQ v w1 w2 h hx;simp only[Η,Jbh,or_false] at hQ;rcases hQ with rfl|rfl|rfl|rfl|rfl|rfl|rfl|rfl|rfl|rfl|rfl
    ·exact(fun v w1 w2 h hx=>h) v w1 w2 h hx
    ·exact(fun v w1 w2 h hx=>h) v w1 w2 h hx
    ·exact(fun v w1 w2 h hx=>h) v w1 w2 h hx
    ·exact(fun v w1 w2 h hx=>h) v w1 w2 h hx
    ·exact(fun v w1 w2 h hx=>h) v w1 w2 h hx
    ·exact(fun v w1 w2 h hx=>(by obtain⟨q,e,h1,h2⟩:=h;exact⟨q,e,h1.bl hx,h2⟩)) v w1 w2 h hx
    ·exact(fun v w1 w2 h hx=>nO.up h hx) v w1 w2 h hx
    ·exact(fun v w1 w2 h hx=>nO.up h hx) v w1 w2 h hx
    ·exact(fun v w1 w2 h hx=>yK.up h hx) v w1 w2 h hx
    ·exact(fun v w1 w2 h hx=>h) v w1 w2 h hx
    ·exact(fun v w1 w2 h hx=>(by obtain⟨q,e1,e2,e3⟩:=h;exact⟨q,e1,e2,e3.bl hx⟩)) v w1 w2 h hx)) (fun _ _ h k=>h.trans k) (Ext.refl _) ?_ ?_ ?_
   ·exact fun _ _ _ _ h=>h
   ·intro i Ef;have dF:i=0∨i=1∨i=2∨i=3∨i=4∨i=5∨i=6∨i=7∨i=8∨i=9∨i=10:=by omega
    rcases dF with rfl|rfl|rfl|rfl|rfl|rfl|rfl|rfl|rfl|rfl|rfl
    ·refine aH ?_;intro xf y hg aD;obtain⟨qE,iQ,jd,qi⟩:=jB.out _ hg;simp only[aE,ι,π,aj,ξ,aw,ar,aq];refine .inl ⟨by rfl,?_⟩;go_simp;exact⟨Ext.refl _,rfl⟩
    ·refine aH ?_;intro xf y hg aD;simp only[aE,ι,π,aj,ξ,aw,ar,aq];refine .inl ⟨by rfl,?_⟩;go_simp;exact⟨Ext.refl _,rfl⟩
    ·refine aH ?_;intro xf y hg aD;simp only[aE,ι,π,aj,ξ,aw,ar,aq];refine .inl ⟨by rfl,?_⟩;go_simp;exact⟨Ext.refl _,rfl⟩
    ·refine aH ?_;intro xf y hg aD;have d1:xf 1=γ (ζ ⟨bb,off,ε⟩) nl cl:=aD 1 (by decide);have d2:xf 2=J (i:Int):=aD 2 (by decide);simp only[aE,ι,π,aj,ξ,aw,ar,aq];simp only[d1,d2];refine .inl ⟨by rfl,?_⟩;go_simp;exact⟨Ext.refl _,rfl⟩
    ·refine aH ?_;intro xf y hg aD;have d3:xf 3=υ (ζ ⟨bb,off+i,ε⟩):=aD 3 (by decide);obtain⟨qE,iQ,jd,qi⟩:=jB.out _ hg;simp only[aE,ι,π,aj,ξ,aw,ar,aq];simp only[d3];refine .inl ⟨by rfl,?_⟩;go_simp;exact⟨Ext.refl _,rfl⟩
    ·refine aH ?_;intro xf y hg aD;have d4:xf 4=φ #[γ Ae ne ce]:=aD 4 (by decide);simp only[aE,ι,π,aj,ξ,aw,ar,aq];simp only[d4];refine .inl ⟨by rfl,cu (by go_simp;first|done|exact⟨rfl,rfl⟩|with_reducible rfl) ?_⟩
     refine(Sj.out y hg).mono ?_
     rintro e w2 ⟨n5,rfl,QB,Qd,hb⟩
     refine⟨_,rfl,hb,?_⟩
     show ∃n',(_:ψ)=φ #[γ Ae n' ce]∧bg w2 (World.heap w2).size 20 Ae n' ce (ah ak (Le.take 8))∧n'≤8
     exact⟨n5,rfl,QB,Qd⟩
    ·refine aH ?_;intro xf y hg aD;have d0:xf 0=φ #[γ A n c,γ B m k,γ C r rc]:=aD 0 (by decide);obtain⟨ne5,d5,QB,Qd⟩:∃n',xf 5=φ #[γ Ae n' ce]∧bg y (World.heap y).size 20 Ae n' ce (ah ak (Le.take 8))∧n'≤8:=aD 5 (by decide)
     obtain⟨ne5,d5,QB,Qd⟩:∃n',xf 5=φ #[γ Ae n' ce]∧bg y (World.heap y).size 20 Ae n' ce (ah ak (Le.take 8))∧n'≤8:=aD 5 (by decide)
     simp only[aE,ι,π,aj,ξ,aw,ar,aq];simp only[d0,d5,d5];refine .inl ⟨by rfl,cu (by go_simp;first|done|exact⟨rfl,rfl⟩|with_reducible rfl) ?_⟩
     refine(HAp.out y (HS.out.dr.up hg) ne5 QB Qd).mono ?_
     rintro e w2 ⟨hb,h3⟩;rcases h3 with⟨hx,A',n',c',V',B',m',k',E',C',r',iv,G',rfl,u6,AQ⟩|⟨hx,rfl⟩
     ·obtain rfl:x=0:=hx
      refine⟨_,rfl,hb,?_⟩
      show nO lo (fun S=>(0:Int)=0→S=T) 0 _ w2;exact nO.of (u6.lo_ (Λ NI.out hg.size)) (fun _=>AQ)
     ·refine⟨_,rfl,hb,?_⟩
      show nO lo (fun S=>x=0→S=T) x _ w2;exact nO.of (mh.nil_ _ _) (fun e=>absurd e hx)
    ·refine aH ?_;intro xf y hg aD;obtain⟨A6,n6,c6,V6,B6,m6,k6,E6,C6,r6,rc6,G6,d6,hs6,he6⟩:nO lo (fun S=>x=0→S=T) x (xf 6) (y):=aD 6 (by decide);simp only[aE,ι,π,aj,ξ,aw,ar,aq];simp only[d6];refine .inl ⟨by rfl,?_⟩;go_simp
     refine⟨Ext.refl _,?_⟩
     show nO lo (fun S=>x=0→S=T) x ((_:ψ)) (y);exact nO.of hs6 he6
    ·refine aH ?_;intro xf y hg aD;obtain⟨A7,n7,c7,V7,B7,m7,k7,E7,C7,r7,LU,G7,d7,ye,Xt⟩:nO lo (fun S=>x=0→S=T) x (xf 7) (y):=aD 7 (by decide);simp only[aE,ι,π,aj,ξ,aw,ar,aq];simp only[d7];refine .inl ⟨by rfl,?_⟩;go_simp
     refine⟨Ext.refl _,?_⟩
     show yK lo (fun S=>x=0→S=T) ((_:ψ)) (y);exact yK.of ye Xt
    ·refine aH ?_;intro xf y hg aD;obtain⟨A7,n7,c7,V7,B7,m7,k7,E7,C7,r7,LU,G7,d7,ye,Xt⟩:nO lo (fun S=>x=0→S=T) x (xf 7) (y):=aD 7 (by decide);simp only[aE,ι,π,aj,ξ,aw,ar,aq];simp only[d7];refine .inl ⟨by rfl,?_⟩;go_simp;exact⟨Ext.refl _,rfl⟩
    ·refine aH ?_;intro xf y hg aD;simp only[aE,ι,π,aj,ξ,aw,ar,aq];refine .inl ⟨by rfl,dZ (w':=y.alloc (δ #[γ ε 0 0,γ ε 0 0,γ ε 0 0] 28)) (by go_simp;first|done|exact rfl|exact⟨rfl,rfl⟩) (az _ _) ?_⟩;show ∃q,(_:ψ)=υ (ζ ⟨q,0,ε⟩)∧wo.heap.size≤q∧Whole (y.alloc (δ #[γ ε 0 0,γ ε 0 0,γ ε 0 0] 28)) q 28 [γ ε 0 0,γ ε 0 0,γ ε 0 0]
     exact⟨y.heap.size,rfl,hg.size,Whole.new_ _ _ [γ ε 0 0,γ ε 0 0,γ ε 0 0]⟩
   ·intro xf y hg aX;obtain⟨A7,n7,c7,V7,B7,m7,k7,E7,C7,r7,LU,G7,d7,ye,Xt⟩:nO lo (fun S=>x=0→S=T) x (xf 7) (y):=aX 7 (by decide) (by decide);simp only[aE,ι,π,aj,ξ,aw,ar,aq];simp only[d7]
    refine⟨J x,?_,rfl⟩
    apply dD;rfl;intro w' aC;go_simp;(try with_reducible rfl)
   intro xf y hg aX;obtain⟨A8,n8,c8,V8,B8,m8,k8,E8,C8,r8,CE,G8,d8,LL,he8⟩:yK lo (fun S=>x=0→S=T) (xf 8) (y):=aX 8 (by decide);have d9:xf 9=J x:=aX 9 (by decide);obtain⟨gn,d10,SL,hwn⟩:∃q,xf 10=υ (ζ ⟨q,0,ε⟩)∧wo.heap.size≤q∧Whole (y) q 28 [γ ε 0 0,γ ε 0 0,γ ε 0 0]:=aX 10 (by decide)
   simp only[aE,ι,π,aj,ξ,aw,ar,aq];simp only[d8,d9,d10];clear aX d8 d9 d10;have kj:=qh LL;have YZ:=qh he8;clear LL he8;have o9:=qh hwn;have qH:=qh (ag (aN (Θ _ wo)) hg);have K4:Hid (wo.heap.size≤gn):=qh SL;clear SL hwn;refine gI 11 ?_;intro w' aC
   refine⟨w'.setRow gn #[γ A8 n8 c8,γ B8 m8 k8,γ C8 r8 CE],aR 28 (.tmp 7) (.tmp 41) rfl gn rfl [γ A8 n8 c8,γ B8 m8 k8,γ C8 r8 CE] rfl 28 [γ ε 0 0,γ ε 0 0,γ ε 0 0] (o9.out.bl aC) (by kernel_rfl) rfl (by simp[Τ]),bN (show wo.heap.size≤gn from K4.out) _,?_⟩
   have qP:Hid (Whole (w'.setRow gn #[γ A8 n8 c8,γ B8 m8 k8,γ C8 r8 CE]) gn 28 [γ A8 n8 c8,γ B8 m8 k8,γ C8 r8 CE]):=qh (Whole.row (o9.out.bl aC) [γ A8 n8 c8,γ B8 m8 k8,γ C8 r8 CE]);have kn:Hid (σ wo.heap.size wo (w'.setRow gn #[γ A8 n8 c8,γ B8 m8 k8,γ C8 r8 CE])):=qh (bH (ag qH.out aC) K4.out _);have Oy:=qh ((kj.out.up aC).row (o9.out.bl aC) #[γ A8 n8 c8,γ B8 m8 k8,γ C8 r8 CE]);obtain⟨V1,fD⟩:=aB (w'.setRow gn #[γ A8 n8 c8,γ B8 m8 k8,γ C8 r8 CE]);rw[fD] at qP kn Oy ⊢;clear aC fD o9 qH;refine aa 12 ?_;refine aF (by kernel_rfl) ?_ _;intro W8 cg;have PV:=qh (qP.out.bl cg);have QM:=qh (ag kn.out cg);have kj:=qh (Oy.out.up cg);clear Oy;clear cg qP kn;have Lgn:Hid (w.heap.size≤gn):=qh (Λ HB.out.size K4.out);have N4n:Hid (b4≠gn):=qh (by have h1:=eY.out.lt;have h2:=K4.out;omega);have MP:=qh (ag HB.out QM.out);have vB:=qh (eY.out.bl QM.out);have Mj:=qh (HS.out.up QM.out);have F2:=qh (uP.out.bl QM.out);have EM:=qh (pT.out.up QM.out);clear Sj HB eY HS uP pT QM K4 jB;obtain⟨wp,SH⟩:=aB W8;rw[SH] at MP vB Mj F2 EM PV kj ⊢;clear SH W8 NI;have HB:=MP;clear MP;have eY:=vB;clear vB;have HS:=Mj;clear Mj;have uP:=F2;clear F2;have pT:=EM;clear EM;obtain⟨wo,cS⟩:=aB wp;rw[cS] at HB eY HS uP pT PV kj ⊢;clear cS wp;go_upto_region 8 with fail
   have NI:Hid (lo≤wo.heap.size):=qh (by have:=Glo.out;rw[←this];exact HB.out.size);have Sj:Hid (∀y,Ext wo.drew y→Ζ η 19 #[φ #[γ Ae ne ce]] y fun e w'=>∃n',e=.returned (φ #[γ Ae n' ce])∧bg w' w'.heap.size 20 Ae n' ce (ah ak (Le.take 8))∧n'≤8∧σ y.heap.size y w'):=qh (fun y hy=>za Ae ne ce Le y (KO.out.bl ((aN HB.out).trans (hy.mono HB.out.size))) K4.out);have jB:Hid (∀y,Ext wo.drew y→y.cell? ⟨b4,0,ε⟩=ζ (γ A n c)∧y.cell? ⟨b4,1,ε⟩=ζ (γ B m k)∧y.cell? ⟨b4,2,ε⟩=ζ (γ C r rc)∧y.cell? ⟨bb,off+i,ε⟩=ζ (γ Ae ne ce)):=qh (fun y hy=>⟨(eY.out.dr.bl hy).cell (i:=0) rfl,(eY.out.dr.bl hy).cell (i:=1) rfl,(eY.out.dr.bl hy).cell (i:=2) rfl,((aN HB.out).trans (hy.mono (HB.out.size))).cell aY|>.trans HQ.out⟩)
   refine jI 8 (cw wo.heap.size) (tc [fun v W=>v=φ #[γ A n c,γ B m k,γ C r rc],fun v W=>v=γ (ζ ⟨bb,off,ε⟩) nl cl,fun v W=>v=J (i:Int),fun v W=>v=υ (ζ ⟨bb,off+i,ε⟩),fun v W=>v=φ #[γ Ae ne ce],fun v W=>∃n',v=φ #[γ Ae n' ce]∧bg W (World.heap W).size 20 Ae n' ce (ah ak (Le.take 8))∧n'≤8,fun v W=>yK lo (fun S=>S=tw (Vs.map vS,Es,G) (Le.take 8)) (v) (W),fun v W=>∃q,v=υ (ζ ⟨q,0,ε⟩)∧wo.heap.size≤q∧Whole (W) q 28 [γ ε 0 0,γ ε 0 0,γ ε 0 0]]) (Ext wo.drew) (by kernel_rfl) (by kernel_rfl) (by kernel_rfl) (by kernel_rfl) (by kernel_rfl) (jH (by
    intro Q hQ v w1 w2 h hx;simp only[Η,Jbh,or_false] at hQ;rcases hQ with rfl|rfl|rfl|rfl|rfl|rfl|rfl|rfl
    ·exact(fun v w1 w2 h hx=>h) v w1 w2 h hx
    ·exact(fun v w1 w2 h hx=>h) v w1 w2 h hx
    ·exact(fun v w1 w2 h hx=>h) v w1 w2 h hx
    ·exact(fun v w1 w2 h hx=>h) v w1 w2 h hx
    ·exact(fun v w1 w2 h hx=>h) v w1 w2 h hx
    ·exact(fun v w1 w2 h hx=>(by obtain⟨q,e,h1,h2⟩:=h;exact⟨q,e,h1.bl hx,h2⟩)) v w1 w2 h hx
    ·exact(fun v w1 w2 h hx=>yK.up h hx) v w1 w2 h hx
    ·exact(fun v w1 w2 h hx=>(by obtain⟨q,e1,e2,e3⟩:=h;exact⟨q,e1,e2,e3.bl hx⟩)) v w1 w2 h hx)) (fun _ _ h k=>h.trans k) (Ext.refl _) ?_ ?_
   ·intro i Ef;have dF:i=0∨i=1∨i=2∨i=3∨i=4∨i=5∨i=6∨i=7:=by omega
    rcases dF with rfl|rfl|rfl|rfl|rfl|rfl|rfl|rfl
    ·refine aH ?_;intro xf y hg aD;obtain⟨qE,iQ,jd,qi⟩:=jB.out _ hg;simp only[aE,ι,π,aj,ξ,aw,ar,aq];refine .inl ⟨by rfl,?_⟩;go_simp;exact⟨Ext.refl _,rfl⟩
    ·refine aH ?_;intro xf y hg aD;simp only[aE,ι,π,aj,ξ,aw,ar,aq];refine .inl ⟨by rfl,?_⟩;go_simp;exact⟨Ext.refl _,rfl⟩
    ·refine aH ?_;intro xf y hg aD;simp only[aE,ι,π,aj,ξ,aw,ar,aq];refine .inl ⟨by rfl,?_⟩;go_simp;exact⟨Ext.refl _,rfl⟩
    ·refine aH ?_;intro xf y hg aD;have d1:xf 1=γ (ζ ⟨bb,off,ε⟩) nl cl:=aD 1 (by decide);have d2:xf 2=J (i:Int):=aD 2 (by decide);simp only[aE,ι,π,aj,ξ,aw,ar,aq];simp only[d1,d2];refine .inl ⟨by rfl,?_⟩;go_simp;exact⟨Ext.refl _,rfl⟩
    ·refine aH ?_;intro xf y hg aD;have d3:xf 3=υ (ζ ⟨bb,off+i,ε⟩):=aD 3 (by decide);obtain⟨qE,iQ,jd,qi⟩:=jB.out _ hg;simp only[aE,ι,π,aj,ξ,aw,ar,aq];simp only[d3];refine .inl ⟨by rfl,?_⟩;go_simp;exact⟨Ext.refl _,rfl⟩
    ·refine aH ?_;intro xf y hg aD;have d4:xf 4=φ #[γ Ae ne ce]:=aD 4 (by decide);simp only[aE,ι,π,aj,ξ,aw,ar,aq];simp only[d4];refine .inl ⟨by rfl,cu (by go_simp;first|done|exact⟨rfl,rfl⟩|with_reducible rfl) ?_⟩
     refine(Sj.out y hg).mono ?_
     rintro e w2 ⟨n5,rfl,QB,Qd,hb⟩
     refine⟨_,rfl,hb,?_⟩
     show ∃n',(_:ψ)=φ #[γ Ae n' ce]∧bg w2 (World.heap w2).size 20 Ae n' ce (ah ak (Le.take 8))∧n'≤8
     exact⟨n5,rfl,QB,Qd⟩
    ·refine aH ?_;intro xf y hg aD;have d0:xf 0=φ #[γ A n c,γ B m k,γ C r rc]:=aD 0 (by decide);obtain⟨ne5,d5,QB,Qd⟩:∃n',xf 5=φ #[γ Ae n' ce]∧bg y (World.heap y).size 20 Ae n' ce (ah ak (Le.take 8))∧n'≤8:=aD 5 (by decide)
     obtain⟨ne5,d5,QB,Qd⟩:∃n',xf 5=φ #[γ Ae n' ce]∧bg y (World.heap y).size 20 Ae n' ce (ah ak (Le.take 8))∧n'≤8:=aD 5 (by decide)
     simp only[aE,ι,π,aj,ξ,aw,ar,aq];simp only[d0,d5,d5];refine .inl ⟨by rfl,cu (by go_simp;first|done|exact⟨rfl,rfl⟩|with_reducible rfl) ?_⟩
     refine(HTr.out y (HS.out.dr.up hg) ne5 QB Qd).mono ?_
     rintro e w2 ⟨hb,A',n',c',V',B',m',k',E',C',r',iv,G',rfl,u6,AQ⟩
     refine⟨_,rfl,hb,?_⟩
     show yK lo (fun S=>S=tw (Vs.map vS,Es,G) (Le.take 8)) _ w2;exact yK.of (u6.lo_ (Λ NI.out hg.size)) AQ
    ·refine aH ?_;intro xf y hg aD;simp only[aE,ι,π,aj,ξ,aw,ar,aq];refine .inl ⟨by rfl,dZ (w':=y.alloc (δ #[γ ε 0 0,γ ε 0 0,γ ε 0 0] 28)) (by go_simp;first|done|exact rfl|exact⟨rfl,rfl⟩) (az _ _) ?_⟩;show ∃q,(_:ψ)=υ (ζ ⟨q,0,ε⟩)∧wo.heap.size≤q∧Whole (y.alloc (δ #[γ ε 0 0,γ ε 0 0,γ ε 0 0] 28)) q 28 [γ ε 0 0,γ ε 0 0,γ ε 0 0]
     exact⟨y.heap.size,rfl,hg.size,Whole.new_ _ _ [γ ε 0 0,γ ε 0 0,γ ε 0 0]⟩
   intro xf y hg aX;obtain⟨A9,n9,c9,V9,B9,m9,k9,E9,C9,r9,rF,G9,d6,iS,he9⟩:yK lo (fun S=>S=tw (Vs.map vS,Es,G) (Le.take 8)) (xf 6) (y):=aX 6 (by decide);obtain⟨gt,d7,dz,hwt⟩:∃q,xf 7=υ (ζ ⟨q,0,ε⟩)∧wo.heap.size≤q∧Whole (y) q 28 [γ ε 0 0,γ ε 0 0,γ ε 0 0]:=aX 7 (by decide)
   simp only[aE,ι,π,aj,ξ,aw,ar,aq];simp only[d6,d7];clear aX d6 d7;have fe:=qh iS;have SE:=qh he9;clear iS he9;have o9:=qh hwt;have qH:=qh (ag (aN (Θ _ wo)) hg);have HLt:Hid (wo.heap.size≤gt):=qh dz;clear dz hwt;refine gI 8 ?_;intro w' aC
   refine⟨w'.setRow gt #[γ A9 n9 c9,γ B9 m9 k9,γ C9 r9 rF],aR 28 (.tmp 9) (.tmp 49) rfl gt rfl [γ A9 n9 c9,γ B9 m9 k9,γ C9 r9 rF] rfl 28 [γ ε 0 0,γ ε 0 0,γ ε 0 0] (o9.out.bl aC) (by kernel_rfl) rfl (by simp[Τ]),bN (show wo.heap.size≤gt from HLt.out) _,?_⟩
   have qP:Hid (Whole (w'.setRow gt #[γ A9 n9 c9,γ B9 m9 k9,γ C9 r9 rF]) gt 28 [γ A9 n9 c9,γ B9 m9 k9,γ C9 r9 rF]):=qh (Whole.row (o9.out.bl aC) [γ A9 n9 c9,γ B9 m9 k9,γ C9 r9 rF]);have kn:Hid (σ wo.heap.size wo (w'.setRow gt #[γ A9 n9 c9,γ B9 m9 k9,γ C9 r9 rF])):=qh (bH (ag qH.out aC) HLt.out _);have Oq:=qh ((fe.out.up aC).row (o9.out.bl aC) #[γ A9 n9 c9,γ B9 m9 k9,γ C9 r9 rF]);obtain⟨V1,fD⟩:=aB (w'.setRow gt #[γ A9 n9 c9,γ B9 m9 k9,γ C9 r9 rF]);rw[fD] at qP kn Oq ⊢;clear aC fD o9 qH;refine aF (by kernel_rfl) ?_ _;intro W8 cg;have HWt:=qh (qP.out.bl cg);have Sl:=qh (ag kn.out cg);have fe:=qh (Oq.out.up cg);clear Oq;clear cg qP kn;have Ntn:Hid (gt≠gn):=qh (by have h1:=PV.out.lt;have h2:=HLt.out;omega);have MP:=qh (ag HB.out Sl.out);have vB:=qh (eY.out.bl Sl.out);have Mj:=qh (HS.out.up Sl.out);have F2:=qh (uP.out.bl Sl.out);have EM:=qh (pT.out.up Sl.out);have WK:=qh (PV.out.bl Sl.out);have Vm:=qh (kj.out.up Sl.out);clear Sj HB eY HS uP pT PV kj Sl HLt jB;obtain⟨wp,SH⟩:=aB W8;rw[SH] at MP vB Mj F2 EM WK Vm HWt fe ⊢;clear SH W8 NI;have HB:=MP;clear MP;have eY:=vB;clear vB;have HS:=Mj;clear Mj;have uP:=F2;clear F2;have pT:=EM;clear EM;have PV:=WK;clear WK;have kj:=Vm;clear Vm;obtain⟨wo,cS⟩:=aB wp;rw[cS] at HB eY HS uP pT PV kj HWt fe ⊢
   clear cS wp;have xr:Hid (yh (V9.map vS,E9,G9)):=qh (by rw[show(V9.map vS,E9,G9)=_ from SE.out];exact HO.out.try_ _);obtain⟨P4,RF,aao,-⟩:=HS.out.lens HO.out.ok;obtain⟨amA,am7,Tx,gsh⟩:=fe.out.lens xr.out.ok;have x0:=eY.out.cell (i:=0) rfl;have x1:=eY.out.cell (i:=1) rfl;have x2:=eY.out.cell (i:=2) rfl;have a0:=uP.out.cell (i:=0) rfl;have a1:=uP.out.cell (i:=1) rfl;have a2:=uP.out.cell (i:=2) rfl
   go_upto_region 10 with (first
    |(go_at_call 16
      refine(nA _ HS.out pT.out HE7.out.symm (by omega) (by omega) (by omega)).mono ?_
      rintro e w9 ⟨rfl,sZ⟩;have oC:=qh (ag HB.out sZ);have wg:=qh (eY.out.bl sZ);have Lv:=qh (HS.out.up sZ);have kJ:=qh (PV.out.bl sZ);have Ud:=qh (kj.out.up sZ);have iM:=qh (HWt.out.bl sZ);have sy:=qh (fe.out.up sZ);clear sZ HB eY HS PV kj HWt fe uP pT HE7 x0 x1 x2 a0 a1 a2))
   obtain⟨wq,gwq⟩:=aB w9;rw[gwq] at oC wg Lv kJ Ud iM sy ⊢;clear gwq
   by_cases hx:x=0
   ·subst hx
    have HEn:Hid ((V8.map vS,E8,G8)=(V9.map vS,E9,G9)):=qh (by
     have h1:=Wu.out;rw[if_pos rfl] at h1;exact((YZ.out rfl).trans h1.symm).trans SE.out.symm)
    clear Wu YZ;have t0:=iM.out.cell (i:=0) rfl;have t1:=iM.out.cell (i:=1) rfl;have t2:=iM.out.cell (i:=2) rfl;have n_0:=kJ.out.cell (i:=0) rfl;have n_1:=kJ.out.cell (i:=1) rfl;have n_2:=kJ.out.cell (i:=2) rfl
    have Zu:Hid (∀X,σ wq.heap.size wq X→Ζ η 24 #[γ C9 r9 rF] X fun e w'=>e=.returned (.bool τ)∧σ X.heap.size X w'):=qh (fun X hX=>by
     have:=sr C9 r9 rF G9 X ((sy.out.up hX).gone) (by unfold Jap;omega)
     rw[pG.2 xr.out.ok.gr,decide_eq_true Tx] at this;exact this)
    have SP:Hid (∀X,σ wq.heap.size wq X→Ζ η 25 #[φ #[γ A9 n9 c9,γ B9 m9 k9]] X fun e w'=>e=.returned (J 0)∧σ X.heap.size X w'):=qh (fun X hX=>by
     have:=xD gsh (xr.out.ok.good rfl) X (sy.out.up hX).dg
     rw[xr.out.may7] at this;exact this)
    go_upto_region 16 with (first
     |(go_at_call 16
       refine(nA _ sy.out Ud.out HEn.out.symm (by omega) (by omega) (by omega)).mono ?_
       rintro e wa ⟨rfl,tS⟩;have Ba:=qh tS;have t0:=(iM.out.bl tS).cell (i:=0) rfl;have t1:=(iM.out.bl tS).cell (i:=1) rfl;have t2:=(iM.out.bl tS).cell (i:=2) rfl;clear tS n_0 n_1 n_2)
     |(go_at_call 24
       refine(Zu.out _ Ba.out).mono ?_
       rintro e wb ⟨rfl,SB⟩;have Bb:=qh (ag Ba.out SB);have t0:=(iM.out.bl Bb.out).cell (i:=0) rfl;have t1:=(iM.out.bl Bb.out).cell (i:=1) rfl;have t2:=(iM.out.bl Bb.out).cell (i:=2) rfl;clear SB)
     |(go_at_call 25
       refine(SP.out _ Bb.out).mono ?_
       rintro e wc ⟨rfl,Tv⟩;have Bc:=qh (ag Bb.out Tv);have t0:=(iM.out.bl Bc.out).cell (i:=0) rfl;have t1:=(iM.out.bl Bc.out).cell (i:=1) rfl;have t2:=(iM.out.bl Bc.out).cell (i:=2) rfl;clear Tv))
    have xV:=qh (wg.out.bl Bc.out);have HSc:=qh (sy.out.up Bc.out);have D6:=qh (ag oC.out Bc.out);have z0:=xV.out.cell (i:=0) rfl;have z1:=xV.out.cell (i:=1) rfl;have z2:=xV.out.cell (i:=2) rfl;have y0:=xV.out.free 0;have y1:=xV.out.free 1;have y2:=xV.out.free 2;clear Zu SP wg sy oC iM kJ;go_wp2;go_roundw
    case rel=>exact⟨i+1,A9,n9,c9,V9,B9,m9,k9,E9,C9,r9,rF,G9,by omega,by omega,by go_num,qh (((D6.out.setCell (p:=⟨b4,0,ε⟩) TL.out (γ A9 n9 c9)).setCell (p:=⟨b4,1,ε⟩) TL.out (γ B9 m9 k9)).setCell (p:=⟨b4,2,ε⟩) TL.out (γ C9 r9 rF)),qh (((xV.out.set_ 0 (γ A9 n9 c9)).set_ 1 (γ B9 m9 k9)).set_ 2 (γ C9 r9 rF)),qh (((HSc.out.cellT xV.out 0 (γ A9 n9 c9)).cellT (xV.out.set_ 0 (γ A9 n9 c9)) 1 (γ B9 m9 k9)).cellT ((xV.out.set_ 0 (γ A9 n9 c9)).set_ 1 (γ B9 m9 k9)) 2 (γ C9 r9 rF)),xr⟩
    case measure=>simp[intOf];omega
   ·have q:(x==0)=ρ:=by simpa using hx
    have q':(x !=0)=τ:=by simpa using hx
    have HEn:Hid ((Vs.map vS,Es,G)=(V9.map vS,E9,G9)):=qh (by
     have h1:=Wu.out;rw[if_neg hx] at h1;exact h1.symm.trans SE.out.symm)
    clear Wu YZ hx Ud;have x0:=wg.out.cell (i:=0) rfl;have x1:=wg.out.cell (i:=1) rfl;have x2:=wg.out.cell (i:=2) rfl;have z0:=kJ.out.cell (i:=0) rfl;have y0:=kJ.out.free 0;have z1:=kJ.out.cell (i:=1) rfl;have y1:=kJ.out.free 1;have z2:=kJ.out.cell (i:=2) rfl;have y2:=kJ.out.free 2;go_upto_region 12 with fail
    have oC:=qh (((oC.out.setCell (p:=⟨gn,0,ε⟩) Lgn.out (γ A n c)).setCell (p:=⟨gn,1,ε⟩) Lgn.out (γ B m k)).setCell (p:=⟨gn,2,ε⟩) Lgn.out (γ C r rc));have Lv:=qh (((Lv.out.cellT kJ.out 0 (γ A n c)).cellT (kJ.out.set_ 0 (γ A n c)) 1 (γ B m k)).cellT ((kJ.out.set_ 0 (γ A n c)).set_ 1 (γ B m k)) 2 (γ C r rc));have sy:=qh (((sy.out.cellT kJ.out 0 (γ A n c)).cellT (kJ.out.set_ 0 (γ A n c)) 1 (γ B m k)).cellT ((kJ.out.set_ 0 (γ A n c)).set_ 1 (γ B m k)) 2 (γ C r rc));have wg:=qh (((wg.out.set_far' (i:=0) N4n.out (γ A n c)).set_far' (i:=1) N4n.out (γ B m k)).set_far' (i:=2) N4n.out (γ C r rc));have iM:=qh (((iM.out.set_far' (i:=0) Ntn.out (γ A n c)).set_far' (i:=1) Ntn.out (γ B m k)).set_far' (i:=2) Ntn.out (γ C r rc));have kJ:=qh (((kJ.out.set_ 0 (γ A n c)).set_ 1 (γ B m k)).set_ 2 (γ C r rc));obtain⟨wr9,gwr⟩:=aB (((wq.setCell ⟨gn,0,ε⟩ (γ A n c)).setCell ⟨gn,1,ε⟩ (γ B m k)).setCell ⟨gn,2,ε⟩ (γ C r rc));rw[gwr] at oC Lv sy wg iM kJ ⊢;clear gwr x0 x1 x2;have t0:=iM.out.cell (i:=0) rfl;have t1:=iM.out.cell (i:=1) rfl;have t2:=iM.out.cell (i:=2) rfl;have n_0:=kJ.out.cell (i:=0) rfl;have n_1:=kJ.out.cell (i:=1) rfl;have n_2:=kJ.out.cell (i:=2) rfl
    have Zu:Hid (∀X,σ wr9.heap.size wr9 X→Ζ η 24 #[γ C9 r9 rF] X fun e w'=>e=.returned (.bool τ)∧σ X.heap.size X w'):=qh (fun X hX=>by
     have:=sr C9 r9 rF G9 X ((sy.out.up hX).gone) (by unfold Jap;omega)
     rw[pG.2 xr.out.ok.gr,decide_eq_true Tx] at this;exact this)
    have SP:Hid (∀X,σ wr9.heap.size wr9 X→Ζ η 25 #[φ #[γ A9 n9 c9,γ B9 m9 k9]] X fun e w'=>e=.returned (J 0)∧σ X.heap.size X w'):=qh (fun X hX=>by
     have:=xD gsh (xr.out.ok.good rfl) X (sy.out.up hX).dg
     rw[xr.out.may7] at this;exact this)
    go_upto_region 16 with (first
     |(go_at_call 16
       refine(nA _ sy.out Lv.out HEn.out.symm (by omega) (by omega) (by omega)).mono ?_
       rintro e wa ⟨rfl,tS⟩;have Ba:=qh tS;have t0:=(iM.out.bl tS).cell (i:=0) rfl;have t1:=(iM.out.bl tS).cell (i:=1) rfl;have t2:=(iM.out.bl tS).cell (i:=2) rfl;clear tS n_0 n_1 n_2)
     |(go_at_call 24
       refine(Zu.out _ Ba.out).mono ?_
       rintro e wb ⟨rfl,SB⟩;have Bb:=qh (ag Ba.out SB);have t0:=(iM.out.bl Bb.out).cell (i:=0) rfl;have t1:=(iM.out.bl Bb.out).cell (i:=1) rfl;have t2:=(iM.out.bl Bb.out).cell (i:=2) rfl;clear SB)
     |(go_at_call 25
       refine(SP.out _ Bb.out).mono ?_
       rintro e wc ⟨rfl,Tv⟩;have Bc:=qh (ag Bb.out Tv);have t0:=(iM.out.bl Bc.out).cell (i:=0) rfl;have t1:=(iM.out.bl Bc.out).cell (i:=1) rfl;have t2:=(iM.out.bl Bc.out).cell (i:=2) rfl;clear Tv))
    have xV:=qh (wg.out.bl Bc.out);have HSc:=qh (sy.out.up Bc.out);have D6:=qh (ag oC.out Bc.out);have z0:=xV.out.cell (i:=0) rfl;have z1:=xV.out.cell (i:=1) rfl;have z2:=xV.out.cell (i:=2) rfl;have y0:=xV.out.free 0;have y1:=xV.out.free 1;have y2:=xV.out.free 2;clear Zu SP wg sy oC iM kJ;go_wp2;go_roundw
    case rel=>exact⟨i+1,A9,n9,c9,V9,B9,m9,k9,E9,C9,r9,rF,G9,by omega,by omega,by go_num,qh (((D6.out.setCell (p:=⟨b4,0,ε⟩) TL.out (γ A9 n9 c9)).setCell (p:=⟨b4,1,ε⟩) TL.out (γ B9 m9 k9)).setCell (p:=⟨b4,2,ε⟩) TL.out (γ C9 r9 rF)),qh (((xV.out.set_ 0 (γ A9 n9 c9)).set_ 1 (γ B9 m9 k9)).set_ 2 (γ C9 r9 rF)),qh (((HSc.out.cellT xV.out 0 (γ A9 n9 c9)).cellT (xV.out.set_ 0 (γ A9 n9 c9)) 1 (γ B9 m9 k9)).cellT ((xV.out.set_ 0 (γ A9 n9 c9)).set_ 1 (γ B9 m9 k9)) 2 (γ C9 r9 rF)),xr⟩
    case measure=>simp[intOf];omega
  ·have kZ:¬((i:Int)<(nl:Int)∧(i:Int)<40):=by omega
   by_cases h1:i<nl
   ·have q1:(i:Int)<(nl:Int):=by omega
    have q2:¬(i:Int)<40:=by omega
    clear kZ;go_wp2;go_ret;exact⟨rfl,HB.out⟩
   ·have q1:¬(i:Int)<(nl:Int):=by omega
    clear kZ;go_wp2;go_ret;exact⟨rfl,HB.out⟩
def QT (p:Int × Int):List ψ:=[J p.1,J p.2]
theorem oW (H:Type):Row1 H η 30 QT (fun _ _=>True):=
 (jV Tryz.underlying30 (by kernel_rfl) (bZ (k:=1) (pF Tryz.underlying3) rfl (by kernel_rfl) (bZ (k:=1) (pF Tryz.underlying3) rfl (by kernel_rfl) (lr _)))).map
   (fun a=>(a.1,a.2.1)) (fun _=>rfl) (fun _ _ _=>trivial)
def U6 (d:Int × Int × Int):List ψ:=[J d.1,J d.2.1,J d.2.2]
theorem Ft (H:Type):Row1 H η 32 U6 (fun _ _=>True):=
 (jV Tryz.underlying32 (by kernel_rfl) (bZ (k:=2) (oW H) rfl (by kernel_rfl) (bZ (k:=1) (pF Tryz.underlying3) rfl (by kernel_rfl) (lr _)))).map
   (fun a=>(a.1.1,a.1.2,a.2.1)) (fun _=>rfl) (fun _ _ _=>trivial)
def Re (d:Int × Int × Int × Int × Int):List ψ:=[J d.1,J d.2.1,J d.2.2.1,J d.2.2.2.1,J d.2.2.2.2]
theorem uJ (H:Type):Row1 H η 34 Re (fun _ _=>True):=
 (jV Tryz.underlying34 (by kernel_rfl) (bZ (k:=2) (oW H) rfl (by kernel_rfl) (bZ (k:=3) (Ft H) rfl (by kernel_rfl) (lr _)))).map
   (fun a=>(a.1.1,a.1.2,a.2.1.1,a.2.1.2.1,a.2.1.2.2)) (fun _=>rfl) (fun _ _ _=>trivial)
theorem R8 (H:Type):Row1 H η 36 ak (fun _ o=>o.t.size≤Jap):=
 (jV Tryz.underlying36 (by kernel_rfl) (bZ (k:=1) (pF Tryz.underlying3) rfl (by kernel_rfl) (bZ (k:=2) (oW H) rfl (by kernel_rfl) (bZ (k:=2) (oW H) rfl (by kernel_rfl) (bZ (k:=2) (oW H) rfl (by kernel_rfl)
   (bZ (k:=5) (uJ H) rfl (by kernel_rfl) (bZ (k:=5) (uJ H) rfl (by kernel_rfl) (bZ (k:=1) (I0 Tryz.underlying4) rfl (by kernel_rfl) (bZ (k:=1) (CY Tryz.underlying9) rfl (by kernel_rfl)
   (bZ (k:=1) (pF Tryz.underlying3) rfl (by kernel_rfl) (lr _))))))))))).map
   (fun a=>⟨a.1,a.2.1.1,a.2.1.2,a.2.2.1.1,a.2.2.1.2,a.2.2.2.1.1,a.2.2.2.1.2,a.2.2.2.2.1.1,a.2.2.2.2.1.2.1,a.2.2.2.2.1.2.2.1,a.2.2.2.2.1.2.2.2.1,a.2.2.2.2.1.2.2.2.2,
     a.2.2.2.2.2.1.1,a.2.2.2.2.2.1.2.1,a.2.2.2.2.2.1.2.2.1,a.2.2.2.2.2.1.2.2.2.1,a.2.2.2.2.2.1.2.2.2.2,a.2.2.2.2.2.2.1,a.2.2.2.2.2.2.2.1,a.2.2.2.2.2.2.2.2.1⟩) (fun _=>rfl) (fun _ _ h=>h.2.2.2.2.2.2.2.1)
theorem J0 (H:Type):Row1 H η 49 (Ay (α:=dR)) (TY 20 ak (fun _ o=>o.t.size≤Jap)):=
 (jV Tryz.underlying49 (by kernel_rfl) (bZ (k:=1) (wm (R8 H) Tryz.underlying47 (by kernel_rfl) eB (by decide)) rfl (by kernel_rfl) (lr _))).map
   (fun a=>a.1) (fun _=>by simp) (fun _ _ h=>h.1)
section
open Go.ChangeShapes Go.WideShapes Go.ChangeAt Go.RowKit
namespace lawEditPlane
theorem contract (H:Type) (enc:TypeId × ψ→H) (W:ο) (base:Nat) (args:Array ψ) (ds gs:List (DataW H)) (before:List MemPlace)
 (PY:∀(j:Nat) t v,Tryz.f5.params[j]? =ζ t→args[j]? =ζ v→Value.okWide η W .any base t v)
 (hW:DataW.Whole enc η Tryz.f5.params.toList Rows.editPlaneSpec.vars ρ W args.toList ds gs before):
 Ζ η 5 args W fun e W'=>∃v,e=.returned v∧Rows.editPlaneSpec.post enc η Tryz.f5 ρ τ ρ ρ W args v W':=by
 have hW':=hW;obtain⟨p,q,hA,hV,rfl,hfz,AK⟩:=hW;obtain⟨rfl,rfl⟩:=trodVars_none hV;rw[Tryz.params5] at hA PY;obtain⟨v0,d0,rfl,rfl,h0⟩:=trodAll_one hA;obtain⟨l,rfl,lQ⟩:=uT (J0 H) Tryz.underlying44 (by kernel_rfl) (fun _=>rfl) (by decide) (PY 0 44 v0 rfl rfl) h0
 refine(IT l.1 l.2.1 l.2.2.1 l.2.2.2 W lQ.2.1 (Λ lQ.2.1.le lQ.1) (fun e q=>⟨(lQ.2.2 e q).2.1,Λ (lQ.2.2 e q).2.1.le (lQ.2.2 e q).1⟩)).mono fun e W' ⟨he,hb⟩=>⟨_,he,?_⟩
 exact NF Tryz.laidOut (by kernel_rfl) (tb:=4) (by kernel_rfl) Tryz.underlying4 rfl ⟨rfl,rfl,rfl⟩ hW' hb
theorem lifted (os:Os) (started:os.Started) (H:Type) (enc:TypeId × ψ→H):
 ReturnsInHanded {} Tryz.checked os 5 .any (Rows.editPlaneSpec.pre6 enc η Tryz.f5 Rows.editPlaneRow.domain ρ) (Rows.editPlaneSpec.post enc η Tryz.f5 ρ τ ρ ρ):=by
 refine returnsInHanded_of_change (C:=Tryz.checked) Tryz.own started (by kernel_rfl) Tryz.func5
  (ChangeSpec.witness6 (enc:=enc) (C:=Tryz.checked) ρ ⟨#[],#[γ ε 0 0],[]⟩ 8 (by kernel_rfl) (by kernel_rfl) (by kernel_rfl) (by kernel_rfl)) ?_
 intro W base args ds gs before PY hW _ _;exact contract H enc W base args ds gs before PY hW
theorem proved:Rows.EditPlaneSaid:=
 OpenClaim.holds_of_wide 5 Tryz.f5 rfl rfl rfl rfl rfl rfl rfl ⟨rfl,rfl,rfl,rfl,rfl⟩ rfl rfl rfl rfl rfl (by kernel_rfl) Tryz.func5 (by kernel_rfl)
  (of_decide_eq_true (by kernel_rfl)) (by unfold Func.isWrapper;first|(rw[if_pos (by decide+kernel)];kernel_rfl)|(rw[if_neg (by decide+kernel)];exact⟨rfl,rfl⟩))
  (fun os started H enc _=>lifted os started H enc)
end lawEditPlane
end
end Go.Proofs.YtpdpbfmiahjiiaaGreat
