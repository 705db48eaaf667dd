/- Several texts in one. -/
import Derived.Test.YtpdpbfmiahjiiaaGreatPlAA
import Derived.Test.YtpdpbfmiahjiiaaGreatPlAB
import Derived.Test.YtpdpbfmiahjiiaaGreatPlAC
import Derived.Test.YtpdpbfmiahjiiaaGreatPlAF
set_option linter.unusedSectionVars false
set_option linter.unusedSimpArgs false
set_option linter.unusedVariables false
set_option maxRecDepth 100000
set_option maxHeartbeats 16000000
namespace Go.Proofs.YtpdpbfmiahjiiaaGreat
open Go.RowKit
open _root_.Go.Value renaming slice→γ,string→μ,pointer→υ,agg→φ,slice→Ο,oneCell'→Τ
open _root_.Go.Obj renaming cells→δ
open _root_.Option renaming none→ε,some→ζ,some→Jae
open _root_.Go.Proofs.Tryz renaming prog→η
open _root_.List renaming getElem?_eq_getElem→θ,map_cons→ι,getElem?_eq_some_iff→ν,map_nil→π,mem_of_getElem?→ω,mem_map→Α,length_append→Ε,mem_cons→Η,all_eq_true→Φ,getElem?_append_left→Jab,mem_cons_of_mem→Jad,mem_cons_self→Jai,getElem?_append_right→Jal,mem_flatMap→Jat,length_take→JaA,length_cons→JaH,getElem?_drop→JaS,map_map→JaW,getElem?_set→Jbz,length_set→JbD
open _root_.Go.Act renaming put→ξ
open _root_.Go renaming World→ο,Value→ψ,Calls→Ζ,Addr→Κ,TypeId→Υ
open _root_.Bool renaming false→ρ,true→τ,and_eq_true→Jar
open _root_.Go.RowKit renaming Below→σ
open _root_.Nat renaming le_refl→Δ,le_trans→Λ,lt_or_ge→JaM,sub_self→JaP
open _root_.Option.some renaming inj→Μ
open _root_.Go.IntKind renaming i64→Jaw,wrap_i64→JaT
open _root_.And renaming intro→Jax
open _root_.Go.World renaming setCell→JbB
structure ir (W:ο) (lo:Nat) (Ws:List VC):Prop where
 own:∀x∈Ws,W.ownsRow lo 32 3 (γ x.2.1.1 x.2.1.2.1 x.2.1.2.2.1) x.2.1.2.1 (aA x.2.1.2.2.2)
 rise:∀(i j:Nat) (x y:VC) (a b:Κ),i<j→Ws[i]? =ζ x→Ws[j]? =ζ y→x.2.1.1=ζ a→y.2.1.1=ζ b→a.block<b.block
structure Cl (W:ο) (lo:Nat) (A:Option Κ) (n c:Nat) (Ws:List VC) (B:Option Κ) (m k:Nat) (Es:List EC):Prop where
 v:W.ownsRow lo 59 5 (γ A n c) n (ao vC Ws)
 e:W.ownsRow lo 67 4 (γ B m k) m (ao eC Es)
 r:ir W lo Ws
theorem Cl.dg {W:ο} {lo:Nat} {A:Option Κ} {n c:Nat} {Ws:List VC} {B:Option Κ} {m k:Nat} {Es:List EC} (h:Cl W lo A n c Ws B m k Es):aO W A n c Ws B m k Es:=
 ⟨bk h.v,bk h.e,fun x hx=>⟨fV (h.r.own x hx),bk (h.r.own x hx)⟩⟩
theorem ir.up {W W':ο} {lo:Nat} {Ws:List VC} (h:ir W lo Ws) (hb:σ W.heap.size W W'):ir W' lo Ws:=
 ⟨fun x hx=>bF (h.own x hx) hb,h.rise⟩
theorem Cl.up {W W':ο} {lo:Nat} {A:Option Κ} {n c:Nat} {Ws:List VC} {B:Option Κ} {m k:Nat} {Es:List EC} (h:Cl W lo A n c Ws B m k Es) (hb:σ W.heap.size W W'):Cl W' lo A n c Ws B m k Es:=
 ⟨bF h.v hb,bF h.e hb,h.r.up hb⟩
theorem ir.cells {W:ο} {lo g:Nat} {Ws:List VC} {T:Υ} {cs:List ψ} (h:ir W lo Ws) (hw:Whole W g T cs) (hT:T≠32) (o:Nat) (vs:List ψ):ir (W.setCells g o vs) lo Ws:=
 ⟨fun x hx=>lT (h.own x hx) (bM (h.own x hx) hw hT) o vs,h.rise⟩
theorem ir.nil_ (W:ο) (lo:Nat):ir W lo []:=⟨fun x hx=>(by cases hx),fun i j x y a b _ h=>(by simp at h)⟩
theorem ir.snoc {W:ο} {lo lo':Nat} {Ws:List VC} {x:VC} (h:ir W lo Ws) (hx:W.ownsRow lo' 32 3 (γ x.2.1.1 x.2.1.2.1 x.2.1.2.2.1) x.2.1.2.1 (aA x.2.1.2.2.2)) (hl:lo≤lo') (hn:∀y∈Ws,∀a,y.2.1.1=ζ a→a.block<lo'):ir W lo (Ws++[x]):=by
 refine⟨fun y hy=>?_,fun i j u v a b Fo hu hv ha hb=>?_⟩
 ·rcases List.mem_append.1 hy with hy|hy
  ·exact h.own y hy
  ·obtain rfl:=List.mem_singleton.1 hy;exact se hx hl
 ·have hj:j<(Ws++[x]).length:=(ν.1 hv).1;rw[Ε] at hj;have hj':j<Ws.length+1:=hj;rw[Jab (by omega)] at hu;rcases JaM j Ws.length with h1|h1
  ·rw[Jab h1] at hv;exact h.rise i j u v a b Fo hu hv ha hb
  ·obtain rfl:j=Ws.length:=by omega
   rw[Jal (Δ _),JaP] at hv;obtain rfl:x=v:=by simpa using hv
   have h2:=hn u (ω hu) a ha;have h3:=(sB hx hb).1;omega
theorem FM {α:Type} (Ws Vs:List α) (j:Nat) (x y:α) (hl:Ws.length=j) (hx:Vs[j]? =ζ x):(Ws++Vs.drop j).set j y=(Ws++[y])++Vs.drop (j+1):=by
 have qO:Vs.drop j=x::Vs.drop (j+1):=by
  rw[List.drop_eq_getElem_cons (ν.1 hx).1,(ν.1 hx).2]
 rw[qO,List.set_append_right _ _ (by omega),hl,JaP,List.set_cons_zero,List.append_assoc];rfl
def Sd (w:ο) (b0:Nat) (A:Option Κ) (n c:Nat) (Vs:List VC) (B:Option Κ) (m k:Nat) (Es:List EC):Nat→ψ→ο→Prop
 |0,v,_=>v=υ (ζ ⟨b0,0,ε⟩)
 |1,v,_=>v=γ A n c
 |2,v,W=>∃A' c',v=γ A' n c'∧W.ownsRow w.heap.size 59 5 (γ A' n c') n (ao vC Vs)
 |3,v,_=>v=υ (ζ ⟨b0,1,ε⟩)
 |4,v,_=>v=γ B m k
 |5,v,W=>∃B' k',v=γ B' m k'∧W.ownsRow w.heap.size 67 4 (γ B' m k') m (ao eC Es)
 |6,v,W=>∃A' c' B' k',v=φ #[γ A' n c',γ B' m k']∧W.ownsRow w.heap.size 59 5 (γ A' n c') n (ao vC Vs)∧W.ownsRow w.heap.size 67 4 (γ B' m k') m (ao eC Es)
 |7,v,W=>∃g,v=υ (ζ ⟨g,0,ε⟩)∧w.heap.size+1<g∧Whole W g 25 [γ ε 0 0,γ ε 0 0]
 |_,_,_=>True
theorem QM {w:ο} {b0:Nat} {A:Option Κ} {n c:Nat} {Vs:List VC} {B:Option Κ} {m k:Nat} {Es:List EC}:∀(i:Nat) (v:ψ) (W W':ο),Sd w b0 A n c Vs B m k Es i v W→Ext W W'→Sd w b0 A n c Vs B m k Es i v W'
 |0,_,_,_,h,_=>h
 |1,_,_,_,h,_=>h
 |2,_,_,_,⟨A',c',e,h⟩,hx=>⟨A',c',e,bF h hx⟩
 |3,_,_,_,h,_=>h
 |4,_,_,_,h,_=>h
 |5,_,_,_,⟨A',c',e,h⟩,hx=>⟨A',c',e,bF h hx⟩
 |6,_,_,_,⟨A',c',B',k',e,h1,h2⟩,hx=>⟨A',c',B',k',e,bF h1 hx,bF h2 hx⟩
 |7,_,_,_,⟨g,e,h1,h2⟩,hx=>⟨g,e,h1,h2.bl hx⟩
 |_+8,_,_,_,_,_=>trivial
theorem F6 (A:Option Κ) (n c:Nat) (Vs:List VC) (B:Option Κ) (m k:Nat) (Es:List EC) (w:ο) (h:aO w A n c Vs B m k Es) (hn:n≤1000000) (hm:m≤1000000) (hr:∀x∈Vs,x.2.1.2.1≤1000000):
 Ζ η 80 #[φ #[γ A n c,γ B m k]] w fun e w'=>∃A' c' B' k' Ws,e=.returned (φ #[γ A' n c',γ B' m k'])∧Cl w' w.heap.size A' n c' Ws B' m k' Es∧Ws.map vS=Vs.map vS∧σ w.heap.size w w':=by
 have Dc:=qh h.r;have Sm:=qh hr;have Hl:=qh (h.v.rlen aN (by decide));have Xg:=qh (fun W (hb:σ w.heap.size w W)=>N4 A n c (ao vC Vs) W (h.v.bl hb) (px vC j3 Vs) hn);have Fv:=qh (fun W (hb:σ w.heap.size w W)=>Nw B m k (ao eC Es) W (h.e.bl hb) (px eC qg Es) hm);clear h hr;go_enter Tryz.func80,Tryz.ntmps80;go_upto_region 1 with fail
 have kc:Whole ((w.alloc (δ #[γ A n c,γ B m k] 25)).alloc (δ #[γ ε 0 0,γ ε 0 0] 25)) (w.heap.size) 25 [γ A n c,γ B m k]:=((Whole.new_ w 25 [γ A n c,γ B m k]).alloc (δ #[γ ε 0 0,γ ε 0 0] 25));have kI:Whole ((w.alloc (δ #[γ A n c,γ B m k] 25)).alloc (δ #[γ ε 0 0,γ ε 0 0] 25)) (w.heap.size+1) 25 [γ ε 0 0,γ ε 0 0]:=(Whole.new2 (w:=(w.alloc (δ #[γ A n c,γ B m k] 25))) (by simp));have nK:σ w.heap.size w ((w.alloc (δ #[γ A n c,γ B m k] 25)).alloc (δ #[γ ε 0 0,γ ε 0 0] 25)):=(aF (ax w (δ #[γ A n c,γ B m k] 25)) (δ #[γ ε 0 0,γ ε 0 0] 25));have mf:w.heap.size+1+1≤(((w.alloc (δ #[γ A n c,γ B m k] 25)).alloc (δ #[γ ε 0 0,γ ε 0 0] 25))).heap.size:=by simp
 obtain⟨W0,bJ⟩:=az (((w.alloc (δ #[γ A n c,γ B m k] 25)).alloc (δ #[γ ε 0 0,γ ε 0 0] 25)));rw[bJ] at kc kI nK mf;obtain⟨b1,cJ⟩:=az (w.heap.size+1);rw[cJ] at kI;obtain⟨b0,bS⟩:=az w.heap.size;rw[bS] at kc;have aR:=qh kc;have aQ:=qh kI;have bn:=qh nK;have uo:=qh mf;have zl:=qh bS;have j4:Hid (w.heap.size≤b0):=qh (by omega);have zY:=qh cJ;have fD:Hid (w.heap.size≤b1):=qh (by omega);have kY:Hid (b0≠b1):=qh (by omega);rw[bJ];(try rw[cJ]);(try rw[bS]);have Gsz:Hid (w.heap.size+1<W0.heap.size):=qh (by omega);clear bJ nK mf kc kI bS cJ;have HX:=aR;have HB:=bn;have HS:=Gsz;clear aR bn uo Gsz;refine jG 8 (dS w.heap.size) (Sd w b0 A n c Vs B m k Es) (Ext W0.drew) (by kernel_rfl) (by kernel_rfl) (by kernel_rfl) (by kernel_rfl) (by kernel_rfl) (fun i v w1 w2 h hx=>QM i v w1 w2 h hx) (fun _ _ h k=>h.trans k) (Ext.refl _) ?_ ?_
 ·intro i Mt;have jc:i=0∨i=1∨i=2∨i=3∨i=4∨i=5∨i=6∨i=7:=by omega
  rcases jc with rfl|rfl|rfl|rfl|rfl|rfl|rfl|rfl
  ·refine aL ?_;intro x y hg aH;simp only[aM,ι,π,aB,ξ,ak,aj,ah];refine .inl ⟨by rfl,?_⟩;go_simp;exact⟨Ext.refl _,rfl⟩
  ·refine aL ?_;intro x y hg aH;have d0:x 0=υ (ζ ⟨b0,0,ε⟩):=aH 0 (by decide);have hc:=(HX.out.dr.bl hg).cell (i:=0) rfl;simp only[aM,ι,π,aB,ξ,ak,aj,ah];simp only[d0];refine .inl ⟨by rfl,?_⟩;go_simp;exact⟨Ext.refl _,rfl⟩
  ·refine aL ?_;intro x y hg aH;have d1:x 1=γ A n c:=aH 1 (by decide);simp only[aM,ι,π,aB,ξ,ak,aj,ah];simp only[d1];refine .inl ⟨by rfl,dy (by go_simp;first|done|exact⟨rfl,rfl⟩|with_reducible rfl) ?_⟩
   refine(Xg.out y (af (ba HB.out) hg)).mono ?_
   rintro e w2 ⟨A',c',rfl,ho⟩;exact⟨_,rfl,ho.below,A',c',rfl,se ho.own (af (ba HB.out) hg).size⟩
  ·refine aL ?_;intro x y hg aH;simp only[aM,ι,π,aB,ξ,ak,aj,ah];refine .inl ⟨by rfl,?_⟩;go_simp;exact⟨Ext.refl _,rfl⟩
  ·refine aL ?_;intro x y hg aH;have d3:x 3=υ (ζ ⟨b0,1,ε⟩):=aH 3 (by decide);have hc:=(HX.out.dr.bl hg).cell (i:=1) rfl;simp only[aM,ι,π,aB,ξ,ak,aj,ah];simp only[d3];refine .inl ⟨by rfl,?_⟩;go_simp;exact⟨Ext.refl _,rfl⟩
  ·refine aL ?_;intro x y hg aH;have d4:x 4=γ B m k:=aH 4 (by decide);simp only[aM,ι,π,aB,ξ,ak,aj,ah];simp only[d4];refine .inl ⟨by rfl,dy (by go_simp;first|done|exact⟨rfl,rfl⟩|with_reducible rfl) ?_⟩
   refine(Fv.out y (af (ba HB.out) hg)).mono ?_
   rintro e w2 ⟨A',c',rfl,ho⟩;exact⟨_,rfl,ho.below,A',c',rfl,se ho.own (af (ba HB.out) hg).size⟩
  ·refine aL ?_;intro x y hg aH;obtain⟨A',c',d2,XD⟩:Sd w b0 A n c Vs B m k Es 2 (x 2) y:=aH 2 (by decide);obtain⟨B',k',d5,OY⟩:Sd w b0 A n c Vs B m k Es 5 (x 5) y:=aH 5 (by decide);simp only[aM,ι,π,aB,ξ,ak,aj,ah];simp only[d2,d5];refine .inl ⟨by rfl,?_⟩;go_simp;exact⟨Ext.refl _,A',c',B',k',rfl,XD,OY⟩
  ·refine aL ?_;intro x y hg aH;simp only[aM,ι,π,aB,ξ,ak,aj,ah];refine .inl ⟨by rfl,gZ (w':=y.alloc (δ #[γ ε 0 0,γ ε 0 0] 25)) (by go_simp;first|done|exact rfl|exact⟨rfl,rfl⟩) (ax _ _) ?_⟩;exact⟨y.heap.size,rfl,Nat.lt_of_lt_of_le HS.out hg.size,Whole.new_ _ _ [_,_]⟩
 intro x y hg bW;obtain⟨A',c',B',k',d6,SH,L6⟩:Sd w b0 A n c Vs B m k Es 6 (x 6) y:=bW 6 (by decide);obtain⟨g,d7,Hh,Ho⟩:Sd w b0 A n c Vs B m k Es 7 (x 7) y:=bW 7 (by decide);simp only[aM,ι,π,aB,ξ,ak,aj,ah];simp only[d6,d7];have Yt:=qh SH;have Iq:=qh L6;have Oh:=qh Ho;have Jz:=qh Hh;have tg:=qh (af (ba HB.out) hg);have Ul:=qh (aQ.out.dr.bl hg);clear hg bW d6 d7 SH L6 Ho Hh Xg Fv HB HX aQ HS;refine lp 8 ?_;intro w' aC
 refine⟨w'.setRow g #[γ A' n c',γ B' m k'],cn 25 (.tmp 3) (.tmp 12) rfl g rfl [γ A' n c',γ B' m k'] rfl 25 [γ ε 0 0,γ ε 0 0] (Oh.out.bl aC) (by kernel_rfl) rfl (by simp[Τ]),eD (show w.heap.size≤g by have:=Jz.out;omega) _,?_⟩
 have zM:ζ g≠(Ο A' n c').ownBlock:=bM (bF Yt.out aC) (Oh.out.bl aC) (by decide);have zR:ζ g≠(Ο B' m k').ownBlock:=bM (bF Iq.out aC) (Oh.out.bl aC) (by decide);have Sc:∀(W:ο) (cs:Array ψ),W.setRow g cs=W.setRow g cs:=fun _ _=>rfl
 have Jm:Kept (·=g) w' (w'.setRow g #[γ A' n c',γ B' m k']):=eD (S:=fun x=>x=g) rfl _;have L7:Hid ((w'.setRow g #[γ A' n c',γ B' m k']).ownsRow w.heap.size 59 5 (γ A' n c') n (ao vC Vs)):=qh ((bF Yt.out aC).kept (row:=ζ g) ⟨Jm.os,Jm.tape,Jm.output,Jm.size,fun i hi hk=>Jm.block i hi (fun e=>hk (by rw[e]))⟩ (by first|exact zM|exact zM.symm|exact .inr zM|exact .inr zM.symm));have HEr:Hid ((w'.setRow g #[γ A' n c',γ B' m k']).ownsRow w.heap.size 67 4 (γ B' m k') m (ao eC Es)):=qh ((bF Iq.out aC).kept (row:=ζ g) ⟨Jm.os,Jm.tape,Jm.output,Jm.size,fun i hi hk=>Jm.block i hi (fun e=>hk (by rw[e]))⟩ (by first|exact zR|exact zR.symm|exact .inr zR|exact .inr zR.symm));have QD:Hid (Whole (w'.setRow g #[γ A' n c',γ B' m k']) g 25 [γ A' n c',γ B' m k']):=qh (Whole.row (Oh.out.bl aC) [γ A' n c',γ B' m k']);have jX:Hid (σ w.heap.size w (w'.setRow g #[γ A' n c',γ B' m k'])):=qh (eB (af tg.out aC) (by have:=Jz.out;omega) _);have QK:Hid (Whole (w'.setRow g #[γ A' n c',γ B' m k']) b1 25 [γ ε 0 0,γ ε 0 0]):=qh ((Ul.out.bl aC).row_far (by have:=zY.out;have:=Jz.out;omega) _);obtain⟨W1,a7⟩:=az (w'.setRow g #[γ A' n c',γ B' m k']);rw[a7] at L7 HEr QD jX QK ⊢;clear aC zM zR Sc Jm a7 Yt Iq Oh tg Ul;refine aG (by kernel_rfl) ?_ _;intro W2 jU;have Qj:=qh (bF L7.out jU)
 have Af:=qh (bF HEr.out jU);have fK:=qh (QD.out.bl jU);have cL:=qh (af jX.out jU);have bj:=qh (QK.out.bl jU);have Hg1:Hid (b1<g):=qh (by have:=zY.out;have:=Jz.out;omega);clear jU L7 HEr QD jX QK;have c0:=fK.out.cell (i:=0) rfl;go_wp2;clear c0
 go_loopw [16] (fun si wr=>∃(j:Nat) (Ws:List VC),j≤n∧Ws.length=j∧si=J j∧Hid (σ w.heap.size w wr)∧Hid (Whole wr g 25 [γ A' n c',γ B' m k'])∧Hid (Whole wr b1 25 [γ ε 0 0,γ ε 0 0])∧
  Hid (wr.ownsRow w.heap.size 59 5 (γ A' n c') n (ao vC (Ws++Vs.drop j)))∧Hid (wr.ownsRow w.heap.size 67 4 (γ B' m k') m (ao eC Es))∧Hid (ir wr w.heap.size Ws)∧Hid (Ws.map vS=(Vs.take j).map vS)) (fun si _=>n - (intOf si).toNat)
 case atStart=>exact⟨0,[],by omega,rfl,rfl,cL,fK,bj,Qj,Af,qh (ir.nil_ _ _),qh rfl⟩
 case round=>
  clear cL fK bj Qj Af;obtain⟨j,Ws,hj,YE,rfl,HB,HG,HX,HV,HE,HR,HM⟩:=hrel;obtain⟨wo,dB⟩:=az wr;rw[dB] at HB HG HX HV HE HR ⊢;clear dB
  by_cases nF:j<n
  ·obtain⟨x,hx⟩:∃x,Vs[j]? =ζ x:=⟨_,θ (by have:=Hl.out;omega)⟩
   have hxw:(Ws++Vs.drop j)[j]? =ζ x:=by
    rw[Jal (by omega),YE,JaP,JaS];simpa using hx
   have hsf:=fun y=>FM Ws Vs j x y YE hx
   have HSf:=qh hsf;have eV:=Dc.out x (ω hx);have nP:=Sm.out x (ω hx);have HMx:Hid ((Vs.take (j+1)).map vS=(Vs.take j).map vS++[vS x]):=qh (by rw[List.take_add_one,hx];simp);obtain⟨gv,junk,rfl,Tl,Ho,Hh,hgc,hgm,hgx⟩:=eT HV.out (by omega);have bD:=fun i v hv=>(bk HV.out).elem aN hxw i v hv
   have q0:=bD 0 _ rfl;have q1:=bD 1 _ rfl;have q2:=bD 2 _ rfl;have q3:=bD 3 _ rfl;have q4:=bD 4 _ rfl;simp only[Addr.add_lit,Nat.add_zero,Nat.zero_add] at q0 q1 q2 q3 q4;have IU:=qh (fun W (hb:σ w.heap.size w W)=>KQ x W (eV.below hb) nP);obtain⟨⟨i1,i2⟩,⟨rA,rn,rc,rL⟩,lb,at_⟩:=x;replace IU:Hid (∀W,σ w.heap.size w W→Ζ η 106 #[φ #[J i1,J i2,γ rA rn rc,μ lb,J at_]] W fun e w'=>∃A' c',e=.returned (φ #[J i1,J i2,γ A' rn c',μ lb,J at_])∧Ow W W.heap.size 32 3 (γ A' rn c') rn (aA rL) w'):=IU;have Oh:=qh Ho;have Jz:=qh (Jax Tl (Jax Hh (Jax hgc (Jax hgm hgx))));clear hx hxw hsf eV nP bD Ho Tl Hh hgc hgm hgx;go_upto_region 5 with fail
   clear q0 q1 q2 q3 q4;have dQ:=qh (Whole.new_ wo 59 [J i1,J i2,γ rA rn rc,μ lb,J at_]);have iT:=qh (aF HB.out (δ #[J i1,J i2,γ rA rn rc,μ lb,J at_] 59));have RQ:=qh (HG.out.alloc (δ #[J i1,J i2,γ rA rn rc,μ lb,J at_] 59));have QH:=qh (HX.out.alloc (δ #[J i1,J i2,γ rA rn rc,μ lb,J at_] 59));have RX:=qh (Oh.out.alloc (δ #[J i1,J i2,γ rA rn rc,μ lb,J at_] 59));have Ob:=qh (bF HE.out (ax wo (δ #[J i1,J i2,γ rA rn rc,μ lb,J at_] 59)));have sQ:=qh (HR.out.up (ax wo (δ #[J i1,J i2,γ rA rn rc,μ lb,J at_] 59)));obtain⟨W1,a7⟩:=az (wo.alloc (δ #[J i1,J i2,γ rA rn rc,μ lb,J at_] 59));obtain⟨g5,gg5⟩:=az wo.heap.size;rw[a7] at dQ iT RQ QH RX Ob sQ ⊢;rw[gg5] at dQ ⊢;have agw:Hid (gv≠g5):=qh (by have:=Oh.out.lt;omega);clear a7 gg5 HB HG HX Oh HE HR HV;have iM:=dX (i:=0) RQ.out rfl;refine bK (aT) [6] (by kernel_rfl) ?_;refine bm 0 ?_;refine bm 1 ?_;refine bm 2 ?_;refine fw 3 (hy:=bG (by rfl) 59 (.tmp 5) rfl g5 rfl 59 [J i1,J i2,γ rA rn rc,μ lb,J at_] _ (fun w' h=>h.whole dQ.out.dr (fun h=>h)) Tryz.underlying59 rfl (by kernel_rfl)) (h:=?_);refine kC 4 ?_;intro w' aC
   refine(IU.out w' (af (ba iT.out) aC)).mono ?_
   rintro e w9 ⟨A9,c9,rfl,ho⟩
   refine⟨_,rfl,Kept.of_below ho.below,?_⟩
   have eS:∀y∈Ws,∀a,y.2.1.1=ζ a→a.block<w'.heap.size:=fun y hy a ha=>(sB ((sQ.out.up (below_drewN W1.heap.size W1 1)).up aC|>.own y hy) ha).2
   have RG:Hid (ir w9 w.heap.size (Ws++[((i1,i2),(A9,rn,c9,rL),lb,at_)])):=qh ((((sQ.out.up (below_drewN W1.heap.size W1 1)).up aC).up ho.below).snoc (x:=((i1,i2),(A9,rn,c9,rL),lb,at_)) ho.own (af (ba iT.out) aC).size eS);have Vy:=qh ((dQ.out.dr.bl aC).bl ho.below);have yB:=qh (af (af (ba iT.out) aC) ho.below);have It:=qh ((RQ.out.dr.bl aC).bl ho.below);have NI:=qh ((QH.out.dr.bl aC).bl ho.below);have Q1:=qh ((RX.out.dr.bl aC).bl ho.below);have XH:=qh (bF (bF (bF Ob.out (below_drewN W1.heap.size W1 1)) aC) ho.below);obtain⟨V9,T9⟩:=az w9;rw[T9] at RG Vy yB It NI Q1 XH ⊢;clear aC ho eS T9 iM iT RQ QH RX Ob sQ dQ;simp only[ξ,ak,aj,ah];refine bm 5 ?_;refine lA 6 ?_;intro w' aC;have Ho:=Q1.out.bl aC;have hlen:=cy vC aN (Ws++Vs.drop j)
   have sw:(Ws++Vs.drop j).length=n:=by
    have h1:=Jz.out.2.2.2.2;rw[hlen] at h1;omega
   have Ak:j*5+5≤(ao vC (Ws++Vs.drop j)++junk).length:=by
    rw[Ε,hlen,sw];omega
   refine⟨w'.setCells gv (j*5) [J i1,J i2,γ A9 rn c9,μ lb,J at_],ey 59 (.tmp 26) (.tmp 25) rfl gv (j*5) (by first|rfl|(go_simp;done)|(simp[Act.eval];done)) [J i1,J i2,γ A9 rn c9,μ lb,J at_] rfl (Ho.there_ (j*5) 5 Ak) (by kernel_rfl) (by simp[Τ]),?_⟩
   have qi:=Ho.cells_ (vC ((i1,i2),(A9,rn,c9,rL),lb,at_)) (j*5) w' _ Ak;rw[sW aN _ junk j _ (by omega),HSf.out] at qi;have Vk:∀{T:Υ} {A2:Option Κ} {n2 c2 k2:Nat} {xs:List ψ},w'.ownsRow w.heap.size T k2 (γ A2 n2 c2) n2 xs→59≠T→ζ gv≠(Ο A2 n2 c2).ownBlock:=fun h hT=>bM h Ho hT
   have Z6:(ao vC ((Ws++[((i1,i2),(A9,rn,c9,rL),lb,at_)])++Vs.drop (j+1))).length=n*5:=by
    rw[←HSf.out,cy vC aN,JbD,sw]
   have Tf:Hid ((w'.setCells gv (j*5) (vC ((i1,i2),(A9,rn,c9,rL),lb,at_))).ownsRow w.heap.size 59 5 (γ (ζ ⟨gv,0,ε⟩) n c') n (ao vC ((Ws++[((i1,i2),(A9,rn,c9,rL),lb,at_)])++Vs.drop (j+1)))):=qh (lL qi Jz.out.1 (by
    have h1:=Jz.out.2.1;rw[Ε] at h1 ⊢;rw[Z6,←h1,hlen,sw]) Jz.out.2.2.1 Jz.out.2.2.2.1 Z6)
   have Z7:Hid ((w'.setCells gv (j*5) (vC ((i1,i2),(A9,rn,c9,rL),lb,at_))).ownsRow w.heap.size 67 4 (γ B' m k') m (ao eC Es)):=qh (lT (bF XH.out aC) (Vk (bF XH.out aC) (by decide)) _ _);have za:Hid (ir (w'.setCells gv (j*5) (vC ((i1,i2),(A9,rn,c9,rL),lb,at_))) w.heap.size (Ws++[((i1,i2),(A9,rn,c9,rL),lb,at_)])):=qh ((RG.out.up aC).cells Ho (by decide) _ _);have yL:Hid (σ w.heap.size w (w'.setCells gv (j*5) (vC ((i1,i2),(A9,rn,c9,rL),lb,at_)))):=qh (below_setCells (af yB.out aC) Jz.out.1 _ _);have HGs:Hid (Whole (w'.setCells gv (j*5) (vC ((i1,i2),(A9,rn,c9,rL),lb,at_))) g 25 [γ (ζ ⟨gv,0,ε⟩) n c',γ B' m k']):=qh ((It.out.bl aC).cells_far ((It.out.bl aC).ne_ Ho (by decide)) _ _);have Mu:Hid (Whole (w'.setCells gv (j*5) (vC ((i1,i2),(A9,rn,c9,rL),lb,at_))) b1 25 [γ ε 0 0,γ ε 0 0]):=qh ((NI.out.bl aC).cells_far ((NI.out.bl aC).ne_ Ho (by decide)) _ _);obtain⟨W7,Is⟩:=az (w'.setCells gv (j*5) (vC ((i1,i2),(A9,rn,c9,rL),lb,at_)));rw[Is] at Tf Z7 za yL HGs Mu;rw[show w'.setCells gv (j*5) [J i1,J i2,γ A9 rn c9,μ lb,J at_]=W7 from Is];clear aC Ho hlen sw Ak qi Vk Z6 Is yB It NI Q1 XH Vy RG;(try simp only[ξ,ak,aj,ah]);refine eU (by kernel_rfl) ?_ _;intro W8 ch;have pH:=qh (af yL.out ch);have CV:=qh (HGs.out.bl ch);have aaa:=qh (Mu.out.bl ch);have YK:=qh (bF Tf.out ch);have HE8:=qh (bF Z7.out ch)
   have HR8:=qh (za.out.up ch);clear ch yL HGs Mu Tf Z7 za;go_wp2;go_roundw
   case rel=>exact⟨j+1,Ws++[((i1,i2),(A9,rn,c9,rL),lb,at_)],by omega,by simp[YE],by go_num,pH,CV,aaa,YK,HE8,HR8,qh (by rw[HMx.out,List.map_append,HM.out];rfl)⟩
   case measure=>simp[intOf];omega
  ·obtain rfl:n=j:=by omega
   have pJ:ao vC (Ws++Vs.drop n)=ao vC Ws:=by rw[List.drop_eq_nil_of_le (by have:=Hl.out;omega),List.append_nil]
   have hv:=HV.out;rw[pJ] at hv;have hm:=HM.out;rw[List.take_of_length_le (by have:=Hl.out;omega)] at hm;have QG:ζ b1≠(Ο A' n c').ownBlock:=bM hv HX.out (by decide);have I5:ζ b1≠(Ο B' m k').ownBlock:=bM HE.out HX.out (by decide)
   have HF:Hid (Cl ((wo.setCell ⟨b1,0,ε⟩ (γ A' n c')).setCell ⟨b1,1,ε⟩ (γ B' m k')) w.heap.size A' n c' Ws B' m k' Es):=qh
    ⟨aI (aI hv QG _) QG _,aI (aI HE.out I5 _) I5 _,(HR.out.cells HX.out (by decide) 0 [γ A' n c']).cells (HX.out.set_ 0 (γ A' n c')) (by decide) 1 [γ B' m k']⟩
   have HY:=qh ((HX.out.set_ 0 (γ A' n c')).set_ 1 (γ B' m k'));have tL:=qh ((HB.out.setCell (p:=⟨b1,0,ε⟩) fD.out (γ A' n c')).setCell (p:=⟨b1,1,ε⟩) fD.out (γ B' m k'));have Hm:=qh hm;have c0:=HG.out.cell (i:=0) rfl;have c1:=HG.out.cell (i:=1) rfl;have f0:=HX.out.free 0;have f1:=HX.out.free 1;have k0:=HX.out.cell (i:=0) rfl;have k1:=HX.out.cell (i:=1) rfl;clear hv hm QG I5 pJ HV HE HR HX HB;go_wp2;exact bz rfl b1 rfl HY.out Tryz.underlying25 rfl (by kernel_rfl) rfl ⟨A',c',B',k',Ws,rfl,HF.out,Hm.out,tL.out⟩
section
variable {w w':ο} {A B:Option Κ} {n c m k:Nat} {Vs:List VC} {Es:List EC}
theorem aO.bl (h:aO w A n c Vs B m k Es) (hb:σ w.heap.size w w'):aO w' A n c Vs B m k Es:=h.below hb
theorem aO.al (h:aO w A n c Vs B m k Es) (o:Obj):aO (w.alloc o) A n c Vs B m k Es:=h.below (ax w o)
theorem aO.dr (h:aO w A n c Vs B m k Es):aO w.drew A n c Vs B m k Es:=h.below (below_drewN w.heap.size w 1)
theorem aO.far (h:aO w A n c Vs B m k Es) (g i:Nat) (u:ψ) (ha:∀a,A=ζ a→0<n→a.block≠g) (hb:∀a,B=ζ a→0<m→a.block≠g) (hr:∀x∈Vs,∀a,x.2.1.1=ζ a→0<x.2.1.2.1→a.block≠g):
 aO (w.setCell ⟨g,i,ε⟩ u) A n c Vs B m k Es:=by
 have hs:(w.setCell ⟨g,i,ε⟩ u).heap.size=w.heap.size:=by simp[JbB]
 exact⟨by rw[hs];exact h.v.far_ ha u,by rw[hs];exact h.e.far_ hb u,fun x hx=>⟨(h.r x hx).1,by rw[hs];exact(h.r x hx).2.far_ (hr x hx) u⟩⟩
end
theorem RgOk.bl {w w':ο} {r:Rg} (h:RgOk w r) (hb:σ w.heap.size w w'):RgOk w' r:=h.below hb
theorem RgOk.al {w:ο} {r:Rg} (h:RgOk w r) (o:Obj):RgOk (w.alloc o) r:=h.below (ax w o)
theorem RgOk.dr {w:ο} {r:Rg} (h:RgOk w r):RgOk w.drew r:=h.below (below_drewN w.heap.size w 1)
structure rO (Vs:List VC) (Es:List EC):Prop where
 v:∀x∈Vs,∀d∈x.2.1.2.2.2,Rp d
 e:∀e∈Es,Rp (e.1.1,e.1.2,0)∧Rp (e.1.1,e.1.2,1)
 lv:∀x∈Vs,x.2.2.1.size≤maxLen
 le:∀x∈Es,x.2.1.size≤maxLen
theorem xl (v:VC):(wL v).2.1.1=v.2.1.1∧(wL v).2.1.2.1≤30∧(wL v).2.1.2.1≤v.2.1.2.1∧(wL v).1=v.1∧(wL v).2.2=v.2.2∧∀d∈(wL v).2.1.2.2.2,d∈v.2.1.2.2.2:=by
 unfold wL;split
 ·exact⟨rfl,Δ _,by show 30≤_;omega,rfl,rfl,fun d hd=>List.mem_of_mem_take hd⟩
 ·exact⟨rfl,by omega,Δ _,rfl,rfl,fun d hd=>hd⟩
theorem rO.few {Vs:List VC} {Es:List EC} (h:rO Vs Es):rO ((Vs.take 30).map wL) (Es.take 50):=by
 refine⟨fun x hx d hd=>?_,fun e he=>h.e e (List.mem_of_mem_take he),fun x hx=>?_,fun e he=>h.le e (List.mem_of_mem_take he)⟩
 ·obtain⟨y,hy,rfl⟩:=Α.1 hx;exact h.v y (List.mem_of_mem_take hy) d ((xl y).2.2.2.2.2 d hd)
 ·obtain⟨y,hy,rfl⟩:=Α.1 hx
  have:=h.lv y (List.mem_of_mem_take hy)
  rw[(xl y).2.2.2.2.1];exact this
theorem aO.put {W:ο} {A B:Option Κ} {n c m k g:Nat} {Vs:List VC} {Es:List EC} (h:aO W A n c Vs B m k Es) (ha:∀a,A=ζ a→0<n→a.block≠g) (hb:∀a,B=ζ a→0<m→a.block≠g) (hr:∀x∈Vs,∀a,x.2.1.1=ζ a→0<x.2.1.2.1→a.block≠g) (u v:ψ):
 aO ((W.setCell ⟨g,0,ε⟩ u).setCell ⟨g,1,ε⟩ v) A n c Vs B m k Es:=(h.far g 0 u ha hb hr).far g 1 v ha hb hr
def yq (a b:Int × Int):Int:=lS a.1 a.2 b.1 b.2
theorem wN {a b c:Int × Int} (h:yq a b<0) (k:yq b c<0):yq a c<0:=by
 unfold yq at*;have h1:=qC a.1 a.2 b.1 b.2 c.1 c.2 (by omega) (by omega);have h2:=jx a.1 a.2 c.1 c.2;have h3:=rC a.1 a.2 b.1 b.2;rcases Int.lt_or_eq_of_le h1 with h4|h4
 ·exact h4
 ·obtain⟨e1,e2⟩:=h2.1 h4;rw[←e1,←e2] at k;omega
theorem NT {a b:Int × Int} (h:yq a b<0):a≠b:=by
 rintro rfl
 have:=(jx a.1 a.2 a.1 a.2).2 ⟨rfl,rfl⟩
 unfold yq at h;omega
theorem kn:∀(L:List (Int × Int)) (o:Option (Int × Int)),oT o L=τ↔(∀x∈L,bB x.1 x.2=τ)∧(∀y,o=ζ y→∀x∈L,yq y x<0)∧L.Pairwise (fun a b=>yq a b<0)
 |[],o=>by simp[oT]
 |x::r,o=>by
  have e:oT o (x::r)=(bB x.1 x.2 && (match o with|none=>τ|some y=>decide (lS y.1 y.2 x.1 x.2<0)) && oT (ζ x) r):=by cases o<;>rfl
  rw[e,Jar,Jar,kn r (ζ x),List.pairwise_cons];constructor
  ·rintro⟨⟨h1,h2⟩,h3,h4,h5⟩
   refine⟨fun y hy=>?_,fun y hy z hz=>?_,h4 x rfl,h5⟩
   ·rcases Η.1 hy with rfl|hy
    ·exact h1
    ·exact h3 y hy
   ·subst hy;have h6:yq y x<0:=of_decide_eq_true h2;rcases Η.1 hz with rfl|hz
    ·exact h6
    ·exact wN h6 (h4 x rfl z hz)
  ·rintro⟨h1,h2,h3,h4⟩
   refine⟨⟨h1 x (Jai ..),?_⟩,fun y hy=>h1 y (Jad _ hy),fun y hy z hz=>?_,h4⟩
   ·cases o with
    |none=>rfl
    |some y=>exact decide_eq_true (h2 y rfl x (Jai ..))
   ·cases hy;exact h3 z hz
theorem nf {L:List (Int × Int)} (h:oT ε L=τ):L.Nodup:=
 List.Pairwise.imp (fun h=>NT h) ((kn L ε).1 h).2.2
theorem Ew:∀(Es:List EC) (S:List D),(Es.map (·.1)).Nodup→(∀e∈Es,(e.1.1,e.1.2,(0:Int))∉S∧(e.1.1,e.1.2,(1:Int))∉S)→(FY Es S).length=S.length+2*Es.length
 |[],S,_,_=>by simp[FY]
 |e::r,S,hn,hS=>by
  rw[ι,List.nodup_cons] at hn;have h0:=hS e (Jai ..);have e1:wI (e.1.1,e.1.2,0) S=(e.1.1,e.1.2,0)::S:=by rw[wI,if_neg h0.1]
  have e2:wI (e.1.1,e.1.2,1) ((e.1.1,e.1.2,0)::S)=(e.1.1,e.1.2,1)::(e.1.1,e.1.2,0)::S:=by
   rw[wI,if_neg];rw[Η];rintro (h|h)
   ·simp at h
   ·exact h0.2 h
  rw[FY,e1,e2,Ew r _ hn.2 (fun x hx=>?_)]
  ·simp only[JaH];omega
  ·have bQ:x.1≠e.1:=fun q=>hn.1 (q▸Α.2 ⟨x,hx,rfl⟩)
   have hx':=hS x (Jad _ hx)
   have key:∀a b:Int,(x.1.1,x.1.2,a)≠(e.1.1,e.1.2,b):=fun a b q=>by
    simp only[Prod.mk.injEq] at q;exact bQ (Prod.ext q.1 q.2.1)
   refine⟨fun q=>?_,fun q=>?_⟩<;>· rcases Η.1 q with q|q;exact key _ _ q;rcases Η.1 q with q|q;exact key _ _ q;first|exact hx'.1 q|exact hx'.2 q
structure aV (Vs:List VC) (Es:List EC):Prop where
 v24:Vs.length≤24
 e40:Es.length≤40
 rv:oT ε (Vs.map (·.1))=τ
 re:oT ε (Es.map (·.1))=τ
 tu:Vs.all sU=τ
 pm:(aD Vs).Perm (FY Es [])
 lv:Vs.all (fun v=>dv v.2.2.1)=τ
 le:Es.all (fun v=>dv v.2.1)=τ
 av:Vs.all (fun v=>kt v.2.2.2)=τ
 ae:Es.all (fun v=>kt v.2.2)=τ
theorem PG (Vs:List VC) (Es:List EC):rN Vs Es=0↔aV Vs Es:=by
 unfold rN Ek;constructor
 ·intro h;split at h
  ·cases h
  ·rename_i h0;split at h
   ·cases h
   ·rename_i h1;split at h
    ·cases h
    ·rename_i h2;split at h
     ·cases h
     ·rename_i h3;simp only[decide_eq_true_eq,not_or,Bool.not_eq_true',Bool.not_eq_false,Jar] at h0 h1 h2 h3;exact⟨by omega,by omega,h1.1.1.1,h1.1.1.2,h1.1.2,(kF _ _).1 h1.2,h2.1,h2.2,h3.1,h3.2⟩
 ·intro h;have e0:decide (24<Vs.length∨40<Es.length)=ρ:=decide_eq_false (by have:=h.v24;have:=h.e40;omega);rw[e0,h.rv,h.re,h.tu,(kF _ _).2 h.pm,h.lv,h.le,h.av,h.ae];rfl
section
variable {Vs:List VC} {Es:List EC}
theorem aV.once (h:aV Vs Es):(aD Vs).Nodup:=h.pm.nodup_iff.2 (pB Es [] List.nodup_nil)
theorem aV.len (h:aV Vs Es):(aD Vs).length=2*Es.length:=by
 rw[h.pm.length_eq,Ew Es [] (nf h.re) (fun e _=>⟨by simp,by simp⟩)];simp
theorem VO (hn:(aD Vs).Nodup) {v:VC} (hv:v∈Vs) {d:D} (hd:d∈v.2.1.2.2.2):jl Vs d=(v.1,τ):=by
 induction Vs with
 |nil=>cases hv
 |cons u r ih=>
  rw[iY] at hn;rw[List.nodup_append] at hn
  by_cases hu:d∈u.2.1.2.2.2
  ·rw[yg _ _ _ hu];rcases Η.1 hv with rfl|hv
   ·rfl
   ·exact absurd rfl (hn.2.2 d hu d (Jat.2 ⟨v,hv,hd⟩))
  ·rw[Dh _ _ _ hu];rcases Η.1 hv with rfl|hv
   ·exact absurd hd hu
   ·exact ih hn.2.1 hv
theorem aV.at (h:aV Vs Es) {v:VC} (hv:v∈Vs) {d:D} (hd:d∈v.2.1.2.2.2):jl Vs d=(v.1,τ):=VO h.once hv hd
theorem aV.edge (h:aV Vs Es) {v:VC} (hv:v∈Vs) {d:D} (hd:d∈v.2.1.2.2.2):(iw Es (d.1,d.2.1)).2=τ:=by
 have h1:=(Cv Es d).2 (h.pm.mem_iff.1 (Jat.2 ⟨v,hv,hd⟩));unfold Dl at h1;rw[Jar] at h1;exact h1.1
end
def kT (v:VC) (s:ByteArray):VC:=(v.1,v.2.1,s,v.2.2.2)
theorem jT {α β:Type} (f:α→β) (L:List α) (j:Nat) (x y:α) (hx:L[j]? =ζ x) (h:f y=f x):(L.set j y).map f=L.map f:=by
 rw[List.map_set,h];apply List.ext_getElem?;intro i;rw[Jbz];split
 ·rename_i e;subst e;have hj:=(ν.1 hx).1;rw[List.length_map,if_pos hj,List.getElem?_map,hx];rfl
 ·rfl
theorem all_map {α β:Type} (f:α→β) (p:β→Bool) (L:List α):L.all (fun x=>p (f x))=(L.map f).all p:=by rw[List.all_map];rfl
theorem Ci {Vs Ws:List VC} {Es:List EC} (h:Ws.map vS=Vs.map vS):rN Ws Es=rN Vs Es:=by
 have hl:Ws.length=Vs.length:=by simpa using congrArg List.length h
 have e1:Ws.map (·.1)=Vs.map (·.1):=by
  have:=congrArg (List.map (fun s:(Int × Int) × List D × ByteArray × Int=>s.1)) h
  simpa [JaW,Function.comp_def,vS] using this
 have e2:Ws.map (·.2.1.2.2.2)=Vs.map (·.2.1.2.2.2):=by
  have:=congrArg (List.map (fun s:(Int × Int) × List D × ByteArray × Int=>s.2.1)) h
  simpa [JaW,Function.comp_def,vS] using this
 have e3:Ws.map (·.2.2.1)=Vs.map (·.2.2.1):=by
  have:=congrArg (List.map (fun s:(Int × Int) × List D × ByteArray × Int=>s.2.2.1)) h
  simpa [JaW,Function.comp_def,vS] using this
 have e4:Ws.map (·.2.2.2)=Vs.map (·.2.2.2):=by
  have:=congrArg (List.map (fun s:(Int × Int) × List D × ByteArray × Int=>s.2.2.2)) h
  simpa [JaW,Function.comp_def,vS] using this
 have r:∀Us:List VC,aD Us=(Us.map (·.2.1.2.2.2)).flatten:=fun Us=>by rw[aD,List.flatMap_def]
 have t:∀Us:List VC,Us.all sU=(Us.map (·.2.1.2.2.2)).all (fun L=>decide (L=aJ L)):=fun Us=>by rw[List.all_map];rfl
 have l:∀Us:List VC,Us.all (fun v=>dv v.2.2.1)=(Us.map (·.2.2.1)).all dv:=fun Us=>by rw[List.all_map];rfl
 have a:∀Us:List VC,Us.all (fun v=>kt v.2.2.2)=(Us.map (·.2.2.2)).all kt:=fun Us=>by rw[List.all_map];rfl
 unfold rN;rw[hl,e1,r Ws,r Vs,e2,t Ws,t Vs,e2,l Ws,l Vs,e3,a Ws,a Vs,e4]
theorem aV.same {Vs Ws:List VC} {Es:List EC} (hf:aV Vs Es) (h:Ws.map vS=Vs.map vS):aV Ws Es:=(PG Ws Es).1 ((Ci h).trans ((PG Vs Es).2 hf))
theorem aV.label {Vs:List VC} {Es:List EC} (h:aV Vs Es) {j:Nat} {x:VC} (hx:Vs[j]? =ζ x) (s:ByteArray):rN (Vs.set j (kT x s)) Es=if dv s then 0 else 4:=by
 have hj:=(ν.1 hx).1;have e0:decide (24<(Vs.set j (kT x s)).length∨40<Es.length)=ρ:=decide_eq_false (by have:=h.v24;have:=h.e40;rw[JbD];omega);have e1:=jT (fun v:VC=>v.1) Vs j x (kT x s) hx rfl
 have e2:aD (Vs.set j (kT x s))=aD Vs:=by
  rw[aD,aD,List.flatMap_def,List.flatMap_def,jT (fun v:VC=>v.2.1.2.2.2) Vs j x (kT x s) hx rfl]
 have t:∀Us:List VC,Us.all sU=(Us.map (fun v:VC=>v.2.1.2.2.2)).all (fun L=>decide (L=aJ L)):=fun Us=>by rw[List.all_map];rfl
 have a:∀Us:List VC,Us.all (fun v=>kt v.2.2.2)=(Us.map (fun v:VC=>v.2.2.2)).all kt:=fun Us=>by rw[List.all_map];rfl
 have e3:(Vs.set j (kT x s)).all sU=Vs.all sU:=by
  rw[t,t,jT (fun v:VC=>v.2.1.2.2.2) Vs j x (kT x s) hx rfl]
 have e4:(Vs.set j (kT x s)).all (fun v=>kt v.2.2.2)=Vs.all (fun v=>kt v.2.2.2):=by
  rw[a,a,jT (fun v:VC=>v.2.2.2) Vs j x (kT x s) hx rfl]
 have e5:(Vs.set j (kT x s)).all (fun v=>dv v.2.2.1)=dv s:=by
  rw[Bool.eq_iff_iff,Φ];constructor
  ·intro ha;exact ha (kT x s) (ω (i:=j) (by rw[Jbz,if_pos rfl,if_pos hj]))
  ·intro hs v hv;rcases List.mem_or_eq_of_mem_set hv with hv|rfl
   ·exact Φ.1 h.lv v hv
   ·exact hs
 unfold rN Ek;rw[e0,e1,e2,e3,e4,e5,h.rv,h.re,h.tu,(kF _ _).2 h.pm,h.le,h.av,h.ae];cases dv s<;>rfl
theorem Lq {cs vs:List ψ} {o i:Nat} {u:ψ} (hc:∀j v,vs[j]? =ζ v→cs[o+j]? =ζ v) (hi:i<vs.length) (hl:o+vs.length≤cs.length):eF cs o (vs.set i u)=cs.set (o+i) u:=by
 unfold eF;rw[JbD];apply List.ext_getElem?;intro p;rw[Jbz];have ht:(cs.take o).length=o:=by rw[JaA];omega
 rcases JaM p o with h1|h1
 ·rw[Jab (by omega),List.getElem?_take,if_pos h1,if_neg (by omega)]
 ·rw[Jal (by omega),ht];rcases JaM (p - o) vs.length with h2|h2
  ·rw[Jab (by rw[JbD];exact h2),Jbz]
   by_cases h3:i=p - o
   ·subst h3;rw[if_pos rfl,if_pos h2,if_pos (by omega),if_pos (by omega)]
   ·rw[if_neg h3,if_neg (by omega)]
    have:=hc (p - o) _ (θ h2)
    rw[show o+(p - o)=p by omega] at this;rw[this,θ h2]
  ·rw[Jal (by rw[JbD];exact h2),JbD,JaS,if_neg (by omega)];congr 1;omega
theorem jI {α:Type} {f:α→List ψ} {s:Nat} (hs:∀x,(f x).length=s) {W:ο} {lo n c:Nat} {T:Υ} {A:Option Κ} {L:List α} (h:W.ownsRow lo T s (γ A n c) n (ao f L)) {j i:Nat} {x y:α} {u:ψ}
 (hx:L[j]? =ζ x) (hn:j<n) (hi:i<s) (hy:f y=(f x).set i u):
 ∃g junk,A=ζ ⟨g,0,ε⟩∧lo≤g∧Whole W g T (ao f L++junk)∧W.cell? ⟨g,j*s+i,ε⟩=(f x)[i]?∧W.frozen? ⟨g,j*s+i,ε⟩=ρ∧
  (W.setCell ⟨g,j*s+i,ε⟩ u).ownsRow lo T s (γ A n c) n (ao f (L.set j y)):=by
 obtain⟨g,junk,rfl,gi,hw,hl,tH,qW,pR⟩:=eT h (by omega);have hlen:=cy f hs L;have hj:=(ν.1 hx).1;have Ak:(j+1)*s≤L.length*s:=Nat.mul_le_mul_right _ hj;rw[Nat.succ_mul] at Ak
 have hg:∀p v,(f x)[p]? =ζ v→(ao f L++junk)[j*s+p]? =ζ v:=fun p v hv=>by
  have h1:=jv f hs L j x hx p v hv;rw[Jab (ν.1 h1).1];exact h1
 have WN:i<(f x).length:=by rw[hs];exact hi
 have qi:eF (ao f L++junk) (j*s) (f y)=(ao f L++junk).set (j*s+i) u:=by
  rw[hy];exact Lq hg WN (by rw[Ε,hs];omega)
 rw[sW hs L junk j y hj] at qi;have jU:=hw.set_ (j*s+i) u;rw[←qi] at jU
 refine⟨g,junk,rfl,gi,hw,?_,hw.free _,lL jU gi ?_ tH qW ?_⟩
 ·rw[θ WN];exact hw.cell (hg i _ (θ WN))
 ·rw[qi,JbD];exact hl
 ·rw[cy f hs,JbD,←hlen];exact pR
theorem CH {W:ο} {lo lo' k k' n n':Nat} {T T':Υ} {v v':ψ} {xs YB:List ψ} (h:W.ownsRow lo T k v n xs) (h':W.ownsRow lo' T' k' v' n' YB) (hT:T≠T'):v.ownBlock=ε∨v.ownBlock≠v'.ownBlock:=by
 rcases h.2 with⟨rfl,-⟩|⟨g,cap,cur,rfl,-,hg,-⟩
 ·exact .inl rfl
 ·refine .inr fun e=>?_
  rcases h'.2 with⟨rfl,-⟩|⟨g',afT,af5,rfl,-,XM,-⟩
  ·cases e
  ·have e1:g=g':=Μ e;subst e1;rw[hg] at XM;injection Μ XM with e2 e3 e4
   exact hT e3
theorem pv {W W':ο} {lo lo' k k' n n':Nat} {T T':Υ} {v v':ψ} {xs YB:List ψ} (h:W.ownsRow lo T k v n xs) (h':W.ownsRow lo' T' k' v' n' YB) (hT:T≠T') (hg:W.grownBy W' v'.ownBlock):W'.ownsRow lo T k v n xs:=h.kept hg (CH h h' hT)
structure bc (g:Nat) (W W':ο):Prop where
 w:∀b T cs,Whole W b T cs→b≠g→T≠59→T≠67→T≠98→Whole W' b T cs
 s:W.heap.size≤W'.heap.size
theorem bc.of_below {g:Nat} {W W':ο} (h:σ W.heap.size W W'):bc g W W':=⟨fun b T cs hw _ _ _ _=>hw.bl h,h.size⟩
theorem bc.refl (g:Nat) (W:ο):bc g W W:=bc.of_below (Below.refl _ _)
theorem bc.trans {g:Nat} {W W1 W2:ο} (h:bc g W W1) (k:bc g W1 W2):bc g W W2:=⟨fun b T cs hw a b c d=>k.w _ _ _ (h.w _ _ _ hw a b c d) a b c d,Λ h.s k.s⟩
theorem bc.setS {g:Nat} {W W1:ο} (h:bc g W W1) (i:Nat) (u:ψ):bc g W (W1.setCell ⟨g,i,ε⟩ u):=
 ⟨fun b T' qN hw h1 h2 h3 h4=>(h.w _ _ _ hw h1 h2 h3 h4).far h1 u,by simpa [JbB] using h.s⟩
theorem bc.setT {g g':Nat} {W W1:ο} {T:Υ} {cs:List ψ} (h:bc g W W1) (hg:Whole W1 g' T cs) (hT:T=59∨T=67∨T=98) (i:Nat) (u:ψ):bc g W (W1.setCell ⟨g',i,ε⟩ u):=
 ⟨fun b T' qN hw h1 h2 h3 h4=>(h.w _ _ _ hw h1 h2 h3 h4).far ((h.w _ _ _ hw h1 h2 h3 h4).ne_ hg (by rcases hT with rfl|rfl|rfl<;>assumption)) u,by simpa [JbB] using h.s⟩
theorem bc.grown {g:Nat} {W W':ο} {lo k n c:Nat} {T:Υ} {A:Option Κ} {xs:List ψ} (ho:W.ownsRow lo T k (γ A n c) n xs) (hT:T=59∨T=67∨T=98) (hg:W.grownBy W' (Ο A n c).ownBlock):bc g W W':=
 ⟨fun b T' qN hw _ h2 h3 h4=>hw.grown hg (bM ho hw (by rcases hT with rfl|rfl|rfl<;>assumption)),hg.size⟩
structure fH (w:ο) (lo g:Nat) (A:Option Κ) (n c:Nat) (Vs:List VC) (B:Option Κ) (m k:Nat) (Es:List EC) (C:Option Κ) (r rc:Nat) (G:List Gn) (W:ο):Prop where
 s:Whole W g 28 [γ A n c,γ B m k,γ C r rc]
 v:W.ownsRow lo 59 5 (γ A n c) n (ao vC Vs)
 e:W.ownsRow lo 67 4 (γ B m k) m (ao eC Es)
 rg:∀x∈Vs,lj W x.2.1
 gn:W.ownsRow lo 98 6 (γ C r rc) r (ao cj G)
 below:σ w.heap.size w W
 lo_:w.heap.size≤lo
 hi:lo≤W.heap.size
 gl:w.heap.size≤g
theorem iL {W w':ο} {b:Nat} (h:Kept (fun x=>x=b) W w'):W.grownBy w' (ζ b):=ta h
section
variable {w W:ο} {lo g:Nat} {A:Option Κ} {n c:Nat} {Vs:List VC} {B:Option Κ} {m k:Nat} {Es:List EC} {C:Option Κ} {r rc:Nat} {G:List Gn}
theorem fH.up {W':ο} (h:fH w lo g A n c Vs B m k Es C r rc G W) (hb:σ W.heap.size W W'):fH w lo g A n c Vs B m k Es C r rc G W':=
 ⟨h.s.bl hb,bF h.v hb,bF h.e hb,fun x hx=>(h.rg x hx).bl hb,bF h.gn hb,af h.below hb,h.lo_,Λ h.hi hb.size,h.gl⟩
theorem fH.vlen (h:fH w lo g A n c Vs B m k Es C r rc G W):Vs.length=n:=(bk h.v).rlen aN (by decide)
theorem fH.elen (h:fH w lo g A n c Vs B m k Es C r rc G W):Es.length=m:=(bk h.e).rlen cM (by decide)
theorem fH.setV {A':Option Κ} {n' c':Nat} {Wq:List VC} {W':ο} (h:fH w lo g A n c Vs B m k Es C r rc G W) (hg:W.grownBy W' (Ο A n c).ownBlock) (hv:W'.ownsRow lo 59 5 (γ A' n' c') n' (ao vC Wq)) (hr:∀x∈Wq,x∈Vs∨lj W' x.2.1):
 fH w lo g A' n' c' Wq B m k Es C r rc G (W'.setCell ⟨g,0,ε⟩ (γ A' n' c')):=by
 have hs:=h.s.grown hg (bM h.v h.s (by decide));have he:=pv h.e h.v (by decide) hg;have vQ:=pv h.gn h.v (by decide) hg;have gi:∀q,(Ο A n c).ownBlock=ζ q→lo≤q:=fun q e=>(h.v.lt q e).1
 refine⟨hs.set_ 0 _,aI hv (bM hv hs (by decide)) _,aI he (bM he hs (by decide)) _,fun x hx=>?_,aI vQ (bM vQ hs (by decide)) _,?_,h.lo_,?_,h.gl⟩
 ·rcases hr x hx with h1|h1
  ·exact((h.rg x h1).grown h.v (by decide) hg).cell hs (by decide) _ _
  ·exact h1.cell hs (by decide) _ _
 ·exact(h.below.grown hg h.below.size (fun q e=>Λ h.lo_ (gi q e))).setCell (p:=⟨g,0,ε⟩) h.gl _
 ·have:=hg.size
  have:=h.hi
  simpa [JbB] using by omega
theorem fH.setE {B':Option Κ} {m' k':Nat} {Yq:List EC} {W':ο} (h:fH w lo g A n c Vs B m k Es C r rc G W) (hg:W.grownBy W' (Ο B m k).ownBlock) (he:W'.ownsRow lo 67 4 (γ B' m' k') m' (ao eC Yq)):
 fH w lo g A n c Vs B' m' k' Yq C r rc G (W'.setCell ⟨g,1,ε⟩ (γ B' m' k')):=by
 have hs:=h.s.grown hg (bM h.e h.s (by decide));have hv:=pv h.v h.e (by decide) hg;have vQ:=pv h.gn h.e (by decide) hg;have gi:∀q,(Ο B m k).ownBlock=ζ q→lo≤q:=fun q e=>(h.e.lt q e).1
 refine⟨hs.set_ 1 _,aI hv (bM hv hs (by decide)) _,aI he (bM he hs (by decide)) _,fun x hx=>?_,aI vQ (bM vQ hs (by decide)) _,?_,h.lo_,?_,h.gl⟩
 ·exact((h.rg x hx).grown h.e (by decide) hg).cell hs (by decide) _ _
 ·exact(h.below.grown hg h.below.size (fun q e=>Λ h.lo_ (gi q e))).setCell (p:=⟨g,1,ε⟩) h.gl _
 ·have:=hg.size
  have:=h.hi
  simpa [JbB] using by omega
theorem fH.setG {C':Option Κ} {r' p9:Nat} {G':List Gn} {W':ο} (h:fH w lo g A n c Vs B m k Es C r rc G W) (hg:σ W.heap.size W W') (hr:W'.ownsRow lo 98 6 (γ C' r' p9) r' (ao cj G')):
 fH w lo g A n c Vs B m k Es C' r' p9 G' (W'.setCell ⟨g,2,ε⟩ (γ C' r' p9)):=by
 have h1:=h.up hg
 refine⟨h1.s.set_ 2 _,aI h1.v (bM h1.v h1.s (by decide)) _,aI h1.e (bM h1.e h1.s (by decide)) _,fun x hx=>(h1.rg x hx).cell h1.s (by decide) _ _,aI hr (bM hr h1.s (by decide)) _,h1.below.setCell (p:=⟨g,2,ε⟩) h.gl _,h.lo_,?_,h.gl⟩
 have:=h1.hi
 simpa [JbB] using this
theorem fH.dg (h:fH w lo g A n c Vs B m k Es C r rc G W):aO W A n c Vs B m k Es:=⟨bk h.v,bk h.e,fun x hx=>⟨(h.rg x hx).1,(h.rg x hx).2.1⟩⟩
theorem fH.glen (h:fH w lo g A n c Vs B m k Es C r rc G W):G.length=r:=(bk h.gn).rlen bU (by decide)
theorem fH.bl {W':ο} (h:fH w lo g A n c Vs B m k Es C r rc G W) (hb:σ W.heap.size W W'):fH w lo g A n c Vs B m k Es C r rc G W':=h.up hb
theorem fH.al (h:fH w lo g A n c Vs B m k Es C r rc G W) (o:Obj):fH w lo g A n c Vs B m k Es C r rc G (W.alloc o):=h.up (ax W o)
theorem fH.dr (h:fH w lo g A n c Vs B m k Es C r rc G W):fH w lo g A n c Vs B m k Es C r rc G W.drew:=h.up (below_drewN W.heap.size W 1)
theorem fH.cellV (h:fH w lo g A n c Vs B m k Es C r rc G W) {i j:Nat} {v v':VC} {u:ψ} (hv:Vs[i]? =ζ v) (hj:j<5) (hc:vC v'=(vC v).set j u) (hr:v'.2.1=v.2.1∨lj W v'.2.1):
 ∃b cs,A=ζ ⟨b,0,ε⟩∧w.heap.size≤b∧Whole W b 59 cs∧W.cell? ⟨b,i*5+j,ε⟩=(vC v)[j]?∧W.frozen? ⟨b,i*5+j,ε⟩=ρ∧fH w lo g A n c (Vs.set i v') B m k Es C r rc G (W.setCell ⟨b,i*5+j,ε⟩ u)∧bc g W (W.setCell ⟨b,i*5+j,ε⟩ u):=by
 have hi:i<n:=by rw[←h.vlen];exact(ν.1 hv).1
 obtain⟨b,junk,rfl,gi,hw,nA,yu,ho⟩:=jI aN h.v hv hi hj hc
 refine⟨b,_,rfl,Λ h.lo_ gi,hw,nA,yu,⟨h.s.far ((h.s.ne_ hw (by decide))) u,ho,?_,fun x hx=>?_,?_,h.below.setCell (p:=⟨b,i*5+j,ε⟩) (Λ h.lo_ gi) _,h.lo_,by simpa [JbB] using h.hi,h.gl⟩,(bc.refl g W).setT hw (.inl rfl) _ _⟩
 ·exact aI h.e (bM h.e hw (by decide)) _
 ·rcases List.mem_or_eq_of_mem_set hx with hx|rfl
  ·exact(h.rg x hx).cell hw (by decide) _ _
  ·rcases hr with e|hr
   ·rw[e];exact(h.rg v (ω hv)).cell hw (by decide) _ _
   ·exact hr.cell hw (by decide) _ _
 ·exact aI h.gn (bM h.gn hw (by decide)) _
theorem Kr (h:fH w lo g A n c Vs B m k Es C r rc G W) (i:Nat) (hi:i<n) (hn:n≤1000):Ζ η 112 #[υ (ζ ⟨g,0,ε⟩),J (i:Int)] W fun e w'=>e=.returned (.tuple #[])∧∃A' c',fH w lo g A' (n - 1) c' (Vs.eraseIdx i) B m k Es C r rc G w'∧bc g W w':=by
 have hl:Vs.length=n:=h.vlen;obtain⟨b,junk,rfl,gi,hW,qI,tH,qW,pR⟩:=eT h.v (by omega);have HD:=qh (JT b c i n Vs junk W hW hl qI qW hi);have qJ:(ao vC (Vs.eraseIdx i)).length=(n - 1)*5:=by rw[cy vC aN,List.length_eraseIdx,if_pos (by omega),hl]
 have HF:Hid (∀w',Whole w' b 59 (ao vC (Vs.eraseIdx i)++([J 0,J 0,γ ε 0 0,μ {data:=#[]},J 0]++junk))→Kept (fun x=>x=b) W w'→fH w lo g (ζ ⟨b,0,ε⟩) (n - 1) c (Vs.eraseIdx i) B m k Es C r rc G (w'.setCell ⟨g,0,ε⟩ (γ (ζ ⟨b,0,ε⟩) (n - 1) c))):=qh (fun w' h1 h2=>h.setV (iL h2) (lL (junk:=[J 0,J 0,γ ε 0 0,μ {data:=#[]},J 0]++junk) h1 gi (by
  rw[Ε,qJ,Ε,show([J 0,J 0,γ ε 0 0,μ {data:=#[]},J 0]:List ψ).length=5 from rfl];rw[Ε,pR] at qI;omega) (by omega) qW qJ) (fun x hx=>.inl (List.mem_of_mem_eraseIdx hx)))
 have Zf:Hid (∀w',Kept (fun x=>x=b) W w'→bc g W (w'.setCell ⟨g,0,ε⟩ (γ (ζ ⟨b,0,ε⟩) (n - 1) c))):=qh (fun w' h2=>(bc.grown h.v (.inl rfl) (iL h2)).setS _ _);have HS:=qh h.s;have bQ:b≠g:=fun e=>bM h.v h.s (by decide) (by rw[←e];rfl)
 have c0:=h.s.cell (i:=0) rfl;have qL:Jaw.wrap ((i:Int)+1)=(i:Int)+1:=by rw[JaT];omega
 have Hk:Hid (∀w',Kept (fun x=>x=b) W w'→(w'.cell? ⟨g,0,ε⟩).isSome=τ∧w'.frozen? ⟨g,0,ε⟩=ρ):=qh (fun w' h2=>by
  have hs:=HS.out.grown (iL h2) (fun e=>bQ (Μ e).symm);exact⟨by rw[hs.cell (i:=0) rfl];rfl,hs.free _⟩)
 clear hW qI pR qJ h bQ;go_enter Tryz.func112,Tryz.ntmps112
 go_wp2_with (first
  |(go_at_call 139
    refine HD.out.mono ?_;rintro e w3 ⟨rfl,h1,h2⟩;have Zn:=qh (HF.out w3 h1 h2);have DK:=qh (Zf.out w3 h2);obtain⟨tR,F4⟩:=Hk.out w3 h2;obtain⟨vk,tR⟩:=Option.isSome_iff_exists.1 tR;clear h1 h2))
 go_end0;exact⟨rfl,_,_,Zn.out,DK.out⟩
theorem KM (h:fH w lo g A n c Vs B m k Es C r rc G W) (i:Nat) (hi:i<m) (hn:m≤1000):Ζ η 124 #[υ (ζ ⟨g,0,ε⟩),J (i:Int)] W fun e w'=>e=.returned (.tuple #[])∧∃B' k',fH w lo g A n c Vs B' (m - 1) k' (Es.eraseIdx i) C r rc G w'∧bc g W w':=by
 have hl:Es.length=m:=h.elen;obtain⟨b,junk,rfl,gi,hW,qI,tH,qW,pR⟩:=eT h.e (by omega);have HD:=qh (Ji b k i m Es junk W hW hl qI qW hi);have qJ:(ao eC (Es.eraseIdx i)).length=(m - 1)*4:=by rw[cy eC cM,List.length_eraseIdx,if_pos (by omega),hl]
 have HF:Hid (∀w',Whole w' b 67 (ao eC (Es.eraseIdx i)++([J 0,J 0,μ {data:=#[]},J 0]++junk))→Kept (fun x=>x=b) W w'→fH w lo g A n c Vs (ζ ⟨b,0,ε⟩) (m - 1) k (Es.eraseIdx i) C r rc G (w'.setCell ⟨g,1,ε⟩ (γ (ζ ⟨b,0,ε⟩) (m - 1) k))):=qh (fun w' h1 h2=>h.setE (iL h2) (lL (junk:=[J 0,J 0,μ {data:=#[]},J 0]++junk) h1 gi (by
  rw[Ε,qJ,Ε,show([J 0,J 0,μ {data:=#[]},J 0]:List ψ).length=4 from rfl];rw[Ε,pR] at qI;omega) (by omega) qW qJ))
 have Zf:Hid (∀w',Kept (fun x=>x=b) W w'→bc g W (w'.setCell ⟨g,1,ε⟩ (γ (ζ ⟨b,0,ε⟩) (m - 1) k))):=qh (fun w' h2=>(bc.grown h.e (.inr (.inl rfl)) (iL h2)).setS _ _);have HS:=qh h.s;have bQ:b≠g:=fun e=>bM h.e h.s (by decide) (by rw[←e];rfl)
 have c0:=h.s.cell (i:=1) rfl;have qL:Jaw.wrap ((i:Int)+1)=(i:Int)+1:=by rw[JaT];omega
 have Hk:Hid (∀w',Kept (fun x=>x=b) W w'→(w'.cell? ⟨g,1,ε⟩).isSome=τ∧w'.frozen? ⟨g,1,ε⟩=ρ):=qh (fun w' h2=>by
  have hs:=HS.out.grown (iL h2) (fun e=>bQ (Μ e).symm);exact⟨by rw[hs.cell (i:=1) rfl];rfl,hs.free _⟩)
 clear hW qI pR qJ h bQ;go_enter Tryz.func124,Tryz.ntmps124
 go_wp2_with (first
  |(go_at_call 154
    refine HD.out.mono ?_;rintro e w3 ⟨rfl,h1,h2⟩;have Zn:=qh (HF.out w3 h1 h2);have DK:=qh (Zf.out w3 h2);obtain⟨tR,F4⟩:=Hk.out w3 h2;obtain⟨vk,tR⟩:=Option.isSome_iff_exists.1 tR;clear h1 h2))
 go_end0;exact⟨rfl,_,_,Zn.out,DK.out⟩
end
theorem uI {P:Program} {fn:Func} {R:Ending→ο→Prop} {a:Act} {w:ο} {p:Tmp} {t:Υ} (h:fn.results=#[.cell p t]) (g:Nat) {t':Υ} {cs:List ψ} {d:TypeDesc}
 (hp:a.tmps.getD p undef=υ (ζ ⟨g,0,ε⟩)) (hW:Whole w g t' cs) (hu:P.underlying t=ζ d) (hd:d.isRow=τ) (hi:(P.info? t).map (·.size)=ζ cs.length)
 (Rq:a.defers=[]) (hR:R (.returned (φ cs.toArray)) w):bodyPost P fn R .ret a w:=by
 refine bodyPost_ret (v:=φ cs.toArray) ?_ Rq hR
 have hl:=run_loadVar_mid (P:=P) w g 0 t cs d (fun j v hv=>by
  have:=hW.cell hv
  simpa using this) hu hd hi
 have Fj:=hp;rw[Array.getD_eq_getD_getElem?] at Fj;simp[results,h,Fj,asAddr,Sem.run_bind,Result.andThen,hl]
theorem tj (x1 x2:Int) (w:ο):Ζ η 115 #[φ #[J x1,J x2]] w fun e w'=>e=.returned (φ #[J x1,J x2,J 0,J x1,J x2,J 1])∧σ w.heap.size w w':=by
 have hB:=qh (aF (ax w (δ #[J x1,J x2] 30)) (δ #[J x1,J x2,J 0,J x1,J x2,J 1] 141));have hW:Hid (Whole ((w.alloc (δ #[J x1,J x2] 30)).alloc (δ #[J x1,J x2,J 0,J x1,J x2,J 1] 141)) (w.heap.size+1) 141 [J x1,J x2,J 0,J x1,J x2,J 1]):=qh (Whole.new2 (by simp));go_enter Tryz.func115,Tryz.ntmps115;go_wp2;exact uI rfl (w.heap.size+1) rfl hW.out Tryz.underlying141 rfl (by kernel_rfl) rfl ⟨rfl,hB.out⟩
theorem Qd (G:List Gn) (x:Gn) (i n:Nat) (cf:Nat→Int) (hl:G.length=n) (LZ:∀t y,G[t]? =ζ y→cB y x=cf t) (h1:∀t,t<i→cf t<0) (h2:∀t,i≤t→t<n→0≤cf t) (sR:∀t,t<n→cf t=0→∀s,s<t→cf s<0):
 (G.any fun y=>decide (y.1=x.1))=(decide (i<n) && decide (cf i=0)):=by
 have hz:∀y:Gn,cB y x=0↔y.1=x.1:=fun y=>by
  unfold cB;rw[sP];exact⟨fun h=>Prod.ext h.1 (Prod.ext h.2.1 h.2.2),fun h=>by rw[h];exact⟨rfl,rfl,rfl⟩⟩
 rw[Bool.eq_iff_iff,List.any_eq_true,Jar,decide_eq_true_iff,decide_eq_true_iff];constructor
 ·rintro⟨y,hy,e⟩;obtain⟨t,ht,rfl⟩:=List.getElem_of_mem hy;have hg:G[t]? =ζ G[t]:=θ ht;have hc:cf t=0:=by rw[←LZ t _ hg];exact(hz _).2 (of_decide_eq_true e)
  have hit:i≤t:=by
   rcases JaM t i with q|q
   ·have:=h1 t q;omega
   ·exact q
  have hti:t=i:=by
   rcases JaM i t with q|q
   ·have:=sR t (by omega) hc i q
    have:=h2 i (Δ _) (by omega)
    omega
   ·omega
  exact⟨by omega,by rw[←hti];exact hc⟩
 ·rintro⟨hi,hc⟩;have hg:G[i]? =ζ G[i]:=θ (by omega);exact⟨G[i],List.getElem_mem _,decide_eq_true ((hz _).1 (by rw[LZ i _ hg];exact hc))⟩
theorem Gz {G:List Gn} {x:Gn} (h:(G.any fun y=>decide (y.1=x.1))=ρ) (hn:¬G.length≥400):eA G x=nX G x:=by unfold eA;rw[h,if_neg (by simpa using hn)]
theorem GH {G:List Gn} {x:Gn} (h:(G.any fun y=>decide (y.1=x.1))=ρ) (hn:G.length≥400):eA G x=G:=by unfold eA;rw[h,if_pos (by simpa using hn)]
theorem Dn {G:List Gn} {x:Gn} (h:(G.any fun y=>decide (y.1=x.1))=τ) (hn:¬G.length - 1≥400):eA G x=nX G x:=by unfold eA;rw[h,if_neg (by simpa using hn)]
theorem Kg (A:Option Κ) (n c:Nat) (G:List Gn) (x:Gn) (w:ο) (h:aS w w.heap.size 6 A n c (ao cj G)) (hn:n≤400) (cf:Nat→Int) (LZ:∀t y,G[t]? =ζ y→cB y x=cf t) (mh:∀a b,a≤b→b<n→cf b<0→cf a<0) (sR:∀t,t<n→cf t=0→∀s,s<t→cf s<0):
 Ζ η 150 #[γ A n c,φ #[J x.1.1,J x.1.2.1,J x.1.2.2,J x.2.1,J x.2.2.1,J x.2.2.2]] w fun e w'=>∃A' c',e=.returned (.slice A' (eA G x).length c')∧w'.ownsRow w.heap.size 98 6 (.slice A' (eA G x).length c') (eA G x).length (ao cj (eA G x))∧σ w.heap.size w w':=by
 have H:=qh h;have Hl:=qh (h.rlen bU (by decide));have Qw:=qh LZ;have HM:=qh mh;obtain⟨G2,Yc⟩:=az (eA G x);obtain⟨N2,Y2⟩:=az G2.length;rw[Yc,Y2];have fK:=qh Yc;have p7:=qh Y2;have Gy:=qh sR;clear h LZ mh sR Yc Y2;go_enter Tryz.func150,Tryz.ntmps150
 go_upto_if 20 with (first
  |(go_at_call 81
    refine(EX A n c (ao cj G) _ (by exact H.out.bl (ax _ _)) (cS cj jC G) (by omega)).mono ?_
    rintro e w1 ⟨A1,c1,rfl,XW⟩;have lY:=qh XW;have aQ:=qh ((Whole.new_ w 98 [J x.1.1,J x.1.2.1,J x.1.2.2,J x.2.1,J x.2.2.1,J x.2.2.2]).below XW.below);have iT:Hid (σ w.heap.size w w1):=qh (af (ax w (δ #[J x.1.1,J x.1.2.1,J x.1.2.2,J x.2.1,J x.2.2.1,J x.2.2.2] 98)) XW.below);have l0:=aQ.out.cell (i:=0) rfl;have l1:=aQ.out.cell (i:=1) rfl;have l2:=aQ.out.cell (i:=2) rfl;clear XW)
  |(go_at_call 165
    refine(Bu A n c G x.1.1 x.1.2.1 x.1.2.2 _ (by exact H.out.bl iT.out) (by omega) cf Qw.out HM.out).mono ?_
    rintro e w2 ⟨i,mA,Xa,Xk,rfl,ar⟩;have HI:=qh (EA G x i cf Qw.out (by rw[Hl.out];exact mA) Xa (by rw[Hl.out];exact Xk));have Za:=qh (Qd G x i n cf Hl.out Qw.out Xa Xk Gy.out);have gE:=qh (lY.out.up ar);have bj:=qh (aQ.out.below ar);have cL:=qh (af iT.out ar);clear Xa Xk ar lY aQ iT l0 l1 l2 H Qw HM))
 obtain⟨bt,Se⟩:=az ((decide (i<n) && decide (cf i=0)));rw[Se];have RZ:=qh (Za.out.trans Se);have Gbt:=qh Se;clear Se;have l0:=bj.out.cell (i:=0) rfl;have l1:=bj.out.cell (i:=1) rfl;have l2:=bj.out.cell (i:=2) rfl;have l3:=bj.out.cell (i:=3) rfl;have l4:=bj.out.cell (i:=4) rfl;have l5:=bj.out.cell (i:=5) rfl;cases bt with
 |false=>
  by_cases h4:n=400
  ·have q1:(400:Int)≤(n:Int):=by omega
   have q2:400≤n:=by omega
   have Ix:Hid (G2=G):=qh (by rw[←fK.out,GH RZ.out (by rw[Hl.out];show n≥400;omega)]);have hN:N2=n:=by rw[←p7.out,Ix.out,Hl.out]
   have ZW:Hid (w2.ownsRow w.heap.size 98 6 (γ A1 n c1) n (ao cj G2)):=qh (by rw[Ix.out];exact e8 gE.out.own (by simp));clear HI bj gE;subst hN;go_wp2;go_ret;exact⟨_,_,rfl,ZW.out,cL.out⟩
  ·have q1:¬(400:Int)≤(n:Int):=by omega
   have q2:¬400≤n:=by omega
   have Ix:Hid (G2=G.take i++x::G.drop i):=qh (by
    rw[←fK.out,Gz RZ.out (by rw[Hl.out];show ¬n≥400;omega),HI.out,if_neg];rintro⟨q3,q4⟩;have hb:=Gbt.out;rw[decide_eq_true (show i<n by rw[←Hl.out];exact q3),decide_eq_true q4] at hb;cases hb)
   clear HI
   go_wp2_with (first
    |(go_at_call 168
      refine(Dz x (by exact gE.out.up (ax w2 _)) (by exact Whole.new_ w2 98 (cj x)) (by exact Ow.ne_ gE.out (Δ _)) (by omega) mA).mono ?_
      rintro e w4 ⟨A4,c4,rfl,Wf⟩;have nI:=qh Wf;clear Wf gE bj cL l0 l1 l2 l3 l4 l5))
   have hN:N2=n+1:=by
    rw[←p7.out,Ix.out,Ε,JaH,JaA,List.length_drop,Hl.out];omega
   have hr4:=nI.out.own;rw[←Ix.out] at hr4;have ZW:=qh (e8 hr4 (B':=w.heap.size) (by simp));have jJ:Hid (σ w.heap.size w w4):=qh (af (ax w (δ #[J x.1.1,J x.1.2.1,J x.1.2.2,J x.2.1,J x.2.2.1,J x.2.2.2] 98)) nI.out.below);clear hr4 nI;subst hN;go_wp2;go_ret;exact⟨A4,c4,rfl,ZW.out,jJ.out⟩
 |true=>
  have hb:=Gbt.out;rw[Jar,decide_eq_true_iff,decide_eq_true_iff] at hb;have eS:=hb.1
  have Ix:Hid (G2=G.set i x):=qh (by
   rw[←fK.out,Dn RZ.out (by rw[Hl.out];show ¬n - 1≥400;omega),HI.out,if_pos ⟨by rw[Hl.out];exact hb.1,hb.2⟩])
  obtain⟨p,hp⟩:=az (n - 1);have e1:(n:Int) - 1=(p:Int):=by omega
  have e2:Jaw.wrap (p:Int)=(p:Int):=IntWalk.i64_in _ (by omega);have q3:decide ((400:Int)≤(p:Int))=ρ:=decide_eq_false (by omega);have q4:decide (400≤p)=ρ:=decide_eq_false (by omega);obtain⟨b,junk,rfl,gi,hW,qI,tH,qW,pR⟩:=eT gE.out.own (by omega);have hN:N2=n:=by rw[←p7.out,Ix.out,JbD,Hl.out]
  have nK:σ w.heap.size w (w2.setCells b (i*6) (cj x)):=below_setCells cL.out (by have:=gi;simp at this;omega) _ _;have hW3:=hW.cells_ (cj x) (i*6) w2 _ (by rw[qI,bU];omega);rw[sW bU G junk i x (by rw[Hl.out];exact eS),←Ix.out] at hW3;have nD:(ao cj G2).length=n*6:=by rw[cy cj bU,p7.out,hN]
  have hO3:=lL hW3 gi (by rw[Ε,nD,←qI,Ε,pR]) tH qW nD;have mc:=qh (e8 hO3 (B':=w.heap.size) (by simp));have cY:=qh nK;have HTh:=qh (hW.there_ (i*6) 6 (by rw[qI];omega));have N5:(i:Int)<(n:Int):=by omega
  clear HI Ix hb gi hW qI qW pR nK hW3 nD hO3 gE cL hp;subst hN;go_upto_region 9 with fail
  refine wp_region_lit ?_;refine ag (v:=?_) (ζ 27) rfl (by rfl) ?_ ?_;rotate_left
  ·go_simp;(try with_reducible rfl)
  simp only[ξ,ak,aj,ah];refine ag (v:=?_) (ζ 28) rfl (by rfl) ?_ ?_;rotate_left
  ·go_simp;(try with_reducible rfl)
  simp only[ξ,ak,aj,ah];refine bh (ζ 29) rfl (by rfl) 98 (.tmp 3) rfl _ rfl 98 (cj x) _ (by exact bj.out) Tryz.underlying98 rfl (by kernel_rfl) ?_;simp only[ξ,ak,aj,ah];refine ag (v:=?_) (ζ 30) rfl (by rfl) ?_ ?_;rotate_left
  ·go_simp;(try with_reducible rfl)
  simp only[ξ,ak,aj,ah];refine Hz rfl (by rfl) (ey 98 (.tmp 30) (.tmp 29) rfl b (i*6) rfl (cj x) rfl HTh.out (by kernel_rfl) (jC x)) ?_;clear l0 l1 l2 l3 l4 l5 bj HTh;go_wp2;go_ret;exact⟨_,_,rfl,mc.out,cY.out⟩
end Go.Proofs.YtpdpbfmiahjiiaaGreat
