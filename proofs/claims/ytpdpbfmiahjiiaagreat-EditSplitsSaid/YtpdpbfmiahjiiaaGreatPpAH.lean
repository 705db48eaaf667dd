/- Several texts in one. -/
import Derived.Test.YtpdpbfmiahjiiaaGreatPpAA
import Derived.Test.YtpdpbfmiahjiiaaGreatPpAB
import Derived.Test.YtpdpbfmiahjiiaaGreatPpAC
import Derived.Test.YtpdpbfmiahjiiaaGreatPpAF
import Derived.Test.YtpdpbfmiahjiiaaGreatPpAG
set_option linter.unusedSectionVars false
set_option linter.unusedSimpArgs false
set_option linter.unusedVariables false
set_option maxRecDepth 100000
set_option maxHeartbeats 16000000
namespace Go.Proofs.YtpdpbfmiahjiiaaGreat
open Go.RowKit
open _root_.Go.Value renaming slice→γ,string→μ,pointer→υ,agg→φ,slice→Ο,oneCell'→Τ
open _root_.Go.Obj renaming cells→δ
open _root_.Option renaming none→ε,some→ζ,some→Jae
open _root_.Go.Proofs.Tryz renaming prog→η
open _root_.List renaming getElem?_eq_getElem→θ,map_cons→ι,getElem?_eq_some_iff→ν,map_nil→π,mem_of_getElem?→ω,mem_map→Α,length_append→Ε,mem_cons→Η,all_eq_true→Φ,getElem?_append_left→Jab,mem_cons_of_mem→Jad,mem_cons_self→Jai,getElem?_append_right→Jal,mem_flatMap→Jat,length_take→JaA,length_cons→JaH,getElem?_drop→JaS,map_map→JaW,getElem?_set→Jbz,length_set→JbD
open _root_.Go.Act renaming put→ξ
open _root_.Go renaming World→ο,Value→ψ,Calls→Ζ,Addr→Κ,TypeId→Υ
open _root_.Bool renaming false→ρ,true→τ,and_eq_true→Jar
open _root_.Go.RowKit renaming Below→σ
open _root_.Nat renaming le_refl→Δ,le_trans→Λ,lt_or_ge→JaM,sub_self→JaP
open _root_.Option.some renaming inj→Μ
open _root_.Go.IntKind renaming i64→Jaw,wrap_i64→JaT
open _root_.And renaming intro→Jax
open _root_.Go.World renaming setCell→JbB
structure iK (W:ο) (lo:Nat) (Ws:List VC):Prop where
 own:∀x∈Ws,W.ownsRow lo 32 3 (γ x.2.1.1 x.2.1.2.1 x.2.1.2.2.1) x.2.1.2.1 (aA x.2.1.2.2.2)
 rise:∀(i j:Nat) (x y:VC) (a b:Κ),i<j→Ws[i]? =ζ x→Ws[j]? =ζ y→x.2.1.1=ζ a→y.2.1.1=ζ b→a.block<b.block
structure Cl (W:ο) (lo:Nat) (A:Option Κ) (n c:Nat) (Ws:List VC) (B:Option Κ) (m k:Nat) (Es:List EC):Prop where
 v:W.ownsRow lo 59 5 (γ A n c) n (aj vC Ws)
 e:W.ownsRow lo 67 4 (γ B m k) m (aj eC Es)
 r:iK W lo Ws
theorem Cl.dg {W:ο} {lo:Nat} {A:Option Κ} {n c:Nat} {Ws:List VC} {B:Option Κ} {m k:Nat} {Es:List EC} (h:Cl W lo A n c Ws B m k Es):aR W A n c Ws B m k Es:=
 ⟨aJ h.v,aJ h.e,fun x hx=>⟨fO (h.r.own x hx),aJ (h.r.own x hx)⟩⟩
theorem iK.up {W W':ο} {lo:Nat} {Ws:List VC} (h:iK W lo Ws) (hb:σ W.heap.size W W'):iK W' lo Ws:=
 ⟨fun x hx=>bO (h.own x hx) hb,h.rise⟩
theorem Cl.up {W W':ο} {lo:Nat} {A:Option Κ} {n c:Nat} {Ws:List VC} {B:Option Κ} {m k:Nat} {Es:List EC} (h:Cl W lo A n c Ws B m k Es) (hb:σ W.heap.size W W'):Cl W' lo A n c Ws B m k Es:=
 ⟨bO h.v hb,bO h.e hb,h.r.up hb⟩
theorem iK.cells {W:ο} {lo g:Nat} {Ws:List VC} {T:Υ} {cs:List ψ} (h:iK W lo Ws) (hw:Whole W g T cs) (hT:T≠32) (o:Nat) (vs:List ψ):iK (W.setCells g o vs) lo Ws:=
 ⟨fun x hx=>mK (h.own x hx) (ch (h.own x hx) hw hT) o vs,h.rise⟩
theorem iK.nil_ (W:ο) (lo:Nat):iK W lo []:=⟨fun x hx=>(by cases hx),fun i j x y a b _ h=>(by simp at h)⟩
theorem iK.snoc {W:ο} {lo lo':Nat} {Ws:List VC} {x:VC} (h:iK W lo Ws) (hx:W.ownsRow lo' 32 3 (γ x.2.1.1 x.2.1.2.1 x.2.1.2.2.1) x.2.1.2.1 (aA x.2.1.2.2.2)) (hl:lo≤lo') (hn:∀y∈Ws,∀a,y.2.1.1=ζ a→a.block<lo'):iK W lo (Ws++[x]):=by
 refine⟨fun y hy=>?_,fun i j u v a b Jh hu hv ha hb=>?_⟩
 ·rcases List.mem_append.1 hy with hy|hy
  ·exact h.own y hy
  ·obtain rfl:=List.mem_singleton.1 hy;exact wz hx hl
 ·have hj:j<(Ws++[x]).length:=(ν.1 hv).1;rw[Ε] at hj;have hj':j<Ws.length+1:=hj;rw[Jab (by omega)] at hu;rcases JaM j Ws.length with h1|h1
  ·rw[Jab h1] at hv;exact h.rise i j u v a b Jh hu hv ha hb
  ·obtain rfl:j=Ws.length:=by omega
   rw[Jal (Δ _),JaP] at hv;obtain rfl:x=v:=by simpa using hv
   have h2:=hn u (ω hu) a ha;have h3:=(uw hx hb).1;omega
theorem JH {α:Type} (Ws Vs:List α) (j:Nat) (x y:α) (hl:Ws.length=j) (hx:Vs[j]? =ζ x):(Ws++Vs.drop j).set j y=(Ws++[y])++Vs.drop (j+1):=by
 have wE:Vs.drop j=x::Vs.drop (j+1):=by
  rw[List.drop_eq_getElem_cons (ν.1 hx).1,(ν.1 hx).2]
 rw[wE,List.set_append_right _ _ (by omega),hl,JaP,List.set_cons_zero,List.append_assoc];rfl
def T6 (w:ο) (b0:Nat) (A:Option Κ) (n c:Nat) (Vs:List VC) (B:Option Κ) (m k:Nat) (Es:List EC):Nat→ψ→ο→Prop
 |0,v,_=>v=υ (ζ ⟨b0,0,ε⟩)
 |1,v,_=>v=γ A n c
 |2,v,W=>∃A' c',v=γ A' n c'∧W.ownsRow w.heap.size 59 5 (γ A' n c') n (aj vC Vs)
 |3,v,_=>v=υ (ζ ⟨b0,1,ε⟩)
 |4,v,_=>v=γ B m k
 |5,v,W=>∃B' k',v=γ B' m k'∧W.ownsRow w.heap.size 67 4 (γ B' m k') m (aj eC Es)
 |6,v,W=>∃A' c' B' k',v=φ #[γ A' n c',γ B' m k']∧W.ownsRow w.heap.size 59 5 (γ A' n c') n (aj vC Vs)∧W.ownsRow w.heap.size 67 4 (γ B' m k') m (aj eC Es)
 |7,v,W=>∃g,v=υ (ζ ⟨g,0,ε⟩)∧w.heap.size+1<g∧Whole W g 25 [γ ε 0 0,γ ε 0 0]
 |_,_,_=>True
theorem TL {w:ο} {b0:Nat} {A:Option Κ} {n c:Nat} {Vs:List VC} {B:Option Κ} {m k:Nat} {Es:List EC}:∀(i:Nat) (v:ψ) (W W':ο),T6 w b0 A n c Vs B m k Es i v W→Ext W W'→T6 w b0 A n c Vs B m k Es i v W'
 |0,_,_,_,h,_=>h
 |1,_,_,_,h,_=>h
 |2,_,_,_,⟨A',c',e,h⟩,hx=>⟨A',c',e,bO h hx⟩
 |3,_,_,_,h,_=>h
 |4,_,_,_,h,_=>h
 |5,_,_,_,⟨A',c',e,h⟩,hx=>⟨A',c',e,bO h hx⟩
 |6,_,_,_,⟨A',c',B',k',e,h1,h2⟩,hx=>⟨A',c',B',k',e,bO h1 hx,bO h2 hx⟩
 |7,_,_,_,⟨g,e,h1,h2⟩,hx=>⟨g,e,h1,h2.bl hx⟩
 |_+8,_,_,_,_,_=>trivial
theorem Jq (A:Option Κ) (n c:Nat) (Vs:List VC) (B:Option Κ) (m k:Nat) (Es:List EC) (w:ο) (h:aR w A n c Vs B m k Es) (hn:n≤1000000) (hm:m≤1000000) (hr:∀x∈Vs,x.2.1.2.1≤1000000):
 Ζ η 80 #[φ #[γ A n c,γ B m k]] w fun e w'=>∃A' c' B' k' Ws,e=.returned (φ #[γ A' n c',γ B' m k'])∧Cl w' w.heap.size A' n c' Ws B' m k' Es∧Ws.map vS=Vs.map vS∧σ w.heap.size w w':=by
 have JZ:=qh h.r;have YI:=qh hr;have Hl:=qh (h.v.rlen aQ (by decide));have UZ:=qh (fun W (hb:σ w.heap.size w W)=>Qm A n c (aj vC Vs) W (h.v.bl hb) (qD vC kA Vs) hn);have EG:=qh (fun W (hb:σ w.heap.size w W)=>Qd B m k (aj eC Es) W (h.e.bl hb) (qD eC jX Es) hm);clear h hr;go_enter Tryz.func80,Tryz.ntmps80;go_upto_region 1 with fail
 have kM:Whole ((w.alloc (δ #[γ A n c,γ B m k] 25)).alloc (δ #[γ ε 0 0,γ ε 0 0] 25)) (w.heap.size) 25 [γ A n c,γ B m k]:=((Whole.new_ w 25 [γ A n c,γ B m k]).alloc (δ #[γ ε 0 0,γ ε 0 0] 25));have lj:Whole ((w.alloc (δ #[γ A n c,γ B m k] 25)).alloc (δ #[γ ε 0 0,γ ε 0 0] 25)) (w.heap.size+1) 25 [γ ε 0 0,γ ε 0 0]:=(Whole.new2 (w:=(w.alloc (δ #[γ A n c,γ B m k] 25))) (by simp));have qL:σ w.heap.size w ((w.alloc (δ #[γ A n c,γ B m k] 25)).alloc (δ #[γ ε 0 0,γ ε 0 0] 25)):=(aE (ax w (δ #[γ A n c,γ B m k] 25)) (δ #[γ ε 0 0,γ ε 0 0] 25));have mo:w.heap.size+1+1≤(((w.alloc (δ #[γ A n c,γ B m k] 25)).alloc (δ #[γ ε 0 0,γ ε 0 0] 25))).heap.size:=by simp
 obtain⟨W0,bP⟩:=ay (((w.alloc (δ #[γ A n c,γ B m k] 25)).alloc (δ #[γ ε 0 0,γ ε 0 0] 25)));rw[bP] at kM lj qL mo;obtain⟨b1,cX⟩:=ay (w.heap.size+1);rw[cX] at lj;obtain⟨b0,bK⟩:=ay w.heap.size;rw[bK] at kM;have aN:=qh kM;have aI:=qh lj;have a8:=qh qL;have xj:=qh mo;have DA:=qh bK;have kQ:Hid (w.heap.size≤b0):=qh (by omega);have EH:=qh cX;have jK:Hid (w.heap.size≤b1):=qh (by omega);have mj:Hid (b0≠b1):=qh (by omega);rw[bP];(try rw[cX]);(try rw[bK]);have Gsz:Hid (w.heap.size+1<W0.heap.size):=qh (by omega);clear bP qL mo kM lj bK cX;have HX:=aN;have HB:=a8;have HS:=Gsz;clear aN a8 xj Gsz;refine kc 8 (de w.heap.size) (T6 w b0 A n c Vs B m k Es) (Ext W0.drew) (by kernel_rfl) (by kernel_rfl) (by kernel_rfl) (by kernel_rfl) (by kernel_rfl) (fun i v w1 w2 h hx=>TL i v w1 w2 h hx) (fun _ _ h k=>h.trans k) (Ext.refl _) ?_ ?_
 ·intro i RZ;have lJ:i=0∨i=1∨i=2∨i=3∨i=4∨i=5∨i=6∨i=7:=by omega
  rcases lJ with rfl|rfl|rfl|rfl|rfl|rfl|rfl|rfl
  ·refine bj ?_;intro x y hg aK;simp only[aP,ι,π,aC,ξ,aq,ak,ao];refine .inl ⟨by rfl,?_⟩;go_simp;exact⟨Ext.refl _,rfl⟩
  ·refine bj ?_;intro x y hg aK;have d0:x 0=υ (ζ ⟨b0,0,ε⟩):=aK 0 (by decide);have hc:=(HX.out.dr.bl hg).cell (i:=0) rfl;simp only[aP,ι,π,aC,ξ,aq,ak,ao];simp only[d0];refine .inl ⟨by rfl,?_⟩;go_simp;exact⟨Ext.refl _,rfl⟩
  ·refine bj ?_;intro x y hg aK;have d1:x 1=γ A n c:=aK 1 (by decide);simp only[aP,ι,π,aC,ξ,aq,ak,ao];simp only[d1];refine .inl ⟨by rfl,eR (by go_simp;first|done|exact⟨rfl,rfl⟩|with_reducible rfl) ?_⟩
   refine(UZ.out y (af (aL HB.out) hg)).mono ?_
   rintro e w2 ⟨A',c',rfl,ho⟩;exact⟨_,rfl,ho.below,A',c',rfl,wz ho.own (af (aL HB.out) hg).size⟩
  ·refine bj ?_;intro x y hg aK;simp only[aP,ι,π,aC,ξ,aq,ak,ao];refine .inl ⟨by rfl,?_⟩;go_simp;exact⟨Ext.refl _,rfl⟩
  ·refine bj ?_;intro x y hg aK;have d3:x 3=υ (ζ ⟨b0,1,ε⟩):=aK 3 (by decide);have hc:=(HX.out.dr.bl hg).cell (i:=1) rfl;simp only[aP,ι,π,aC,ξ,aq,ak,ao];simp only[d3];refine .inl ⟨by rfl,?_⟩;go_simp;exact⟨Ext.refl _,rfl⟩
  ·refine bj ?_;intro x y hg aK;have d4:x 4=γ B m k:=aK 4 (by decide);simp only[aP,ι,π,aC,ξ,aq,ak,ao];simp only[d4];refine .inl ⟨by rfl,eR (by go_simp;first|done|exact⟨rfl,rfl⟩|with_reducible rfl) ?_⟩
   refine(EG.out y (af (aL HB.out) hg)).mono ?_
   rintro e w2 ⟨A',c',rfl,ho⟩;exact⟨_,rfl,ho.below,A',c',rfl,wz ho.own (af (aL HB.out) hg).size⟩
  ·refine bj ?_;intro x y hg aK;obtain⟨A',c',d2,ho2⟩:T6 w b0 A n c Vs B m k Es 2 (x 2) y:=aK 2 (by decide);obtain⟨B',k',d5,Lo⟩:T6 w b0 A n c Vs B m k Es 5 (x 5) y:=aK 5 (by decide);simp only[aP,ι,π,aC,ξ,aq,ak,ao];simp only[d2,d5];refine .inl ⟨by rfl,?_⟩;go_simp;exact⟨Ext.refl _,A',c',B',k',rfl,ho2,Lo⟩
  ·refine bj ?_;intro x y hg aK;simp only[aP,ι,π,aC,ξ,aq,ak,ao];refine .inl ⟨by rfl,jy (w':=y.alloc (δ #[γ ε 0 0,γ ε 0 0] 25)) (by go_simp;first|done|exact rfl|exact⟨rfl,rfl⟩) (ax _ _) ?_⟩;exact⟨y.heap.size,rfl,Nat.lt_of_lt_of_le HS.out hg.size,Whole.new_ _ _ [_,_]⟩
 intro x y hg cN;obtain⟨A',c',B',k',d6,Sq,Ka⟩:T6 w b0 A n c Vs B m k Es 6 (x 6) y:=cN 6 (by decide);obtain⟨g,d7,KO,Kr⟩:T6 w b0 A n c Vs B m k Es 7 (x 7) y:=cN 7 (by decide);simp only[aP,ι,π,aC,ξ,aq,ak,ao];simp only[d6,d7];have KY:=qh Sq;have Da:=qh Ka;have Q3:=qh Kr;have No:=qh KO;have zK:=qh (af (aL HB.out) hg);have Xf:=qh (aI.out.dr.bl hg);clear hg cN d6 d7 Sq Ka Kr KO UZ EG HB HX aI HS;refine kI 8 ?_;intro w' aB
 refine⟨w'.setRow g #[γ A' n c',γ B' m k'],bn 25 (.tmp 3) (.tmp 12) rfl g rfl [γ A' n c',γ B' m k'] rfl 25 [γ ε 0 0,γ ε 0 0] (Q3.out.bl aB) (by kernel_rfl) rfl (by simp[Τ]),dV (show w.heap.size≤g by have:=No.out;omega) _,?_⟩
 have D0:ζ g≠(Ο A' n c').ownBlock:=ch (bO KY.out aB) (Q3.out.bl aB) (by decide);have Eg:ζ g≠(Ο B' m k').ownBlock:=ch (bO Da.out aB) (Q3.out.bl aB) (by decide);have Vt:∀(W:ο) (cs:Array ψ),W.setRow g cs=W.setRow g cs:=fun _ _=>rfl
 have OP:Kept (·=g) w' (w'.setRow g #[γ A' n c',γ B' m k']):=dV (S:=fun x=>x=g) rfl _;have SA:Hid ((w'.setRow g #[γ A' n c',γ B' m k']).ownsRow w.heap.size 59 5 (γ A' n c') n (aj vC Vs)):=qh ((bO KY.out aB).kept (row:=ζ g) ⟨OP.os,OP.tape,OP.output,OP.size,fun i hi hk=>OP.block i hi (fun e=>hk (by rw[e]))⟩ (by first|exact D0|exact D0.symm|exact .inr D0|exact .inr D0.symm));have Xr:Hid ((w'.setRow g #[γ A' n c',γ B' m k']).ownsRow w.heap.size 67 4 (γ B' m k') m (aj eC Es)):=qh ((bO Da.out aB).kept (row:=ζ g) ⟨OP.os,OP.tape,OP.output,OP.size,fun i hi hk=>OP.block i hi (fun e=>hk (by rw[e]))⟩ (by first|exact Eg|exact Eg.symm|exact .inr Eg|exact .inr Eg.symm));have OO:Hid (Whole (w'.setRow g #[γ A' n c',γ B' m k']) g 25 [γ A' n c',γ B' m k']):=qh (Whole.row (Q3.out.bl aB) [γ A' n c',γ B' m k']);have mB:Hid (σ w.heap.size w (w'.setRow g #[γ A' n c',γ B' m k'])):=qh (cC (af zK.out aB) (by have:=No.out;omega) _);have Vl:Hid (Whole (w'.setRow g #[γ A' n c',γ B' m k']) b1 25 [γ ε 0 0,γ ε 0 0]):=qh ((Xf.out.bl aB).row_far (by have:=EH.out;have:=No.out;omega) _);obtain⟨W1,aO⟩:=ay (w'.setRow g #[γ A' n c',γ B' m k']);rw[aO] at SA Xr OO mB Vl ⊢;clear aB D0 Eg Vt OP aO KY Da Q3 zK Xf;refine aD (by kernel_rfl) ?_ _;intro W2 jd;have P7:=qh (bO SA.out jd)
 have pQ:=qh (bO Xr.out jd);have fZ:=qh (OO.out.bl jd);have bX:=qh (af mB.out jd);have aV:=qh (Vl.out.bl jd);have Hg1:Hid (b1<g):=qh (by have:=EH.out;have:=No.out;omega);clear jd SA Xr OO mB Vl;have c0:=fZ.out.cell (i:=0) rfl;go_wp2;clear c0
 go_loopw [16] (fun si wr=>∃(j:Nat) (Ws:List VC),j≤n∧Ws.length=j∧si=J j∧Hid (σ w.heap.size w wr)∧Hid (Whole wr g 25 [γ A' n c',γ B' m k'])∧Hid (Whole wr b1 25 [γ ε 0 0,γ ε 0 0])∧
  Hid (wr.ownsRow w.heap.size 59 5 (γ A' n c') n (aj vC (Ws++Vs.drop j)))∧Hid (wr.ownsRow w.heap.size 67 4 (γ B' m k') m (aj eC Es))∧Hid (iK wr w.heap.size Ws)∧Hid (Ws.map vS=(Vs.take j).map vS)) (fun si _=>n - (intOf si).toNat)
 case atStart=>exact⟨0,[],by omega,rfl,rfl,bX,fZ,aV,P7,pQ,qh (iK.nil_ _ _),qh rfl⟩
 case round=>
  clear bX fZ aV P7 pQ;obtain⟨j,Ws,hj,hwl,rfl,HB,HG,HX,HV,HE,HR,HM⟩:=hrel;obtain⟨wo,ec⟩:=ay wr;rw[ec] at HB HG HX HV HE HR ⊢;clear ec
  by_cases o4:j<n
  ·obtain⟨x,hx⟩:∃x,Vs[j]? =ζ x:=⟨_,θ (by have:=Hl.out;omega)⟩
   have hxw:(Ws++Vs.drop j)[j]? =ζ x:=by
    rw[Jal (by omega),hwl,JaP,JaS];simpa using hx
   have hsf:=fun y=>JH Ws Vs j x y hwl hx
   have HSf:=qh hsf;have fp:=JZ.out x (ω hx);have sK:=YI.out x (ω hx);have HMx:Hid ((Vs.take (j+1)).map vS=(Vs.take j).map vS++[vS x]):=qh (by rw[List.take_add_one,hx];simp);obtain⟨gv,junk,rfl,Xh,Kr,KO,hgc,hgm,hgx⟩:=dZ HV.out (by omega);have bM:=fun i v hv=>(aJ HV.out).elem aQ hxw i v hv
   have q0:=bM 0 _ rfl;have q1:=bM 1 _ rfl;have q2:=bM 2 _ rfl;have q3:=bM 3 _ rfl;have q4:=bM 4 _ rfl;simp only[Addr.add_lit,Nat.add_zero,Nat.zero_add] at q0 q1 q2 q3 q4;have MJ:=qh (fun W (hb:σ w.heap.size w W)=>T7 x W (fp.below hb) sK);obtain⟨⟨i1,i2⟩,⟨rA,rn,rc,rL⟩,lb,at_⟩:=x;replace MJ:Hid (∀W,σ w.heap.size w W→Ζ η 106 #[φ #[J i1,J i2,γ rA rn rc,μ lb,J at_]] W fun e w'=>∃A' c',e=.returned (φ #[J i1,J i2,γ A' rn c',μ lb,J at_])∧Ow W W.heap.size 32 3 (γ A' rn c') rn (aA rL) w'):=MJ;have Q3:=qh Kr;have No:=qh (Jax Xh (Jax KO (Jax hgc (Jax hgm hgx))));clear hx hxw hsf fp sK bM Kr Xh KO hgc hgm hgx;go_upto_region 5 with fail
   clear q0 q1 q2 q3 q4;have dY:=qh (Whole.new_ wo 59 [J i1,J i2,γ rA rn rc,μ lb,J at_]);have eA:=qh (aE HB.out (δ #[J i1,J i2,γ rA rn rc,μ lb,J at_] 59));have Tw:=qh (HG.out.alloc (δ #[J i1,J i2,γ rA rn rc,μ lb,J at_] 59));have TJ:=qh (HX.out.alloc (δ #[J i1,J i2,γ rA rn rc,μ lb,J at_] 59));have Te:=qh (Q3.out.alloc (δ #[J i1,J i2,γ rA rn rc,μ lb,J at_] 59));have tU:=qh (bO HE.out (ax wo (δ #[J i1,J i2,γ rA rn rc,μ lb,J at_] 59)));have uu:=qh (HR.out.up (ax wo (δ #[J i1,J i2,γ rA rn rc,μ lb,J at_] 59)));obtain⟨W1,aO⟩:=ay (wo.alloc (δ #[J i1,J i2,γ rA rn rc,μ lb,J at_] 59));obtain⟨g5,gg5⟩:=ay wo.heap.size;rw[aO] at dY eA Tw TJ Te tU uu ⊢;rw[gg5] at dY ⊢;have ajY:Hid (gv≠g5):=qh (by have:=Q3.out.lt;omega);clear aO gg5 HB HG HX Q3 HE HR HV;have fv:=dm (i:=0) Tw.out rfl;refine bT (aF) [6] (by kernel_rfl) ?_;refine bf 0 ?_;refine bf 1 ?_;refine bf 2 ?_;refine fC 3 (hy:=bU (by rfl) 59 (.tmp 5) rfl g5 rfl 59 [J i1,J i2,γ rA rn rc,μ lb,J at_] _ (fun w' h=>h.whole dY.out.dr (fun h=>h)) Tryz.underlying59 rfl (by kernel_rfl)) (h:=?_);refine kP 4 ?_;intro w' aB
   refine(MJ.out w' (af (aL eA.out) aB)).mono ?_
   rintro e w9 ⟨A9,c9,rfl,ho⟩
   refine⟨_,rfl,Kept.of_below ho.below,?_⟩
   have fh:∀y∈Ws,∀a,y.2.1.1=ζ a→a.block<w'.heap.size:=fun y hy a ha=>(uw ((uu.out.up (below_drewN W1.heap.size W1 1)).up aB|>.own y hy) ha).2
   have TO:Hid (iK w9 w.heap.size (Ws++[((i1,i2),(A9,rn,c9,rL),lb,at_)])):=qh ((((uu.out.up (below_drewN W1.heap.size W1 1)).up aB).up ho.below).snoc (x:=((i1,i2),(A9,rn,c9,rL),lb,at_)) ho.own (af (aL eA.out) aB).size fh);have Yn:=qh ((dY.out.dr.bl aB).bl ho.below);have te:=qh (af (af (aL eA.out) aB) ho.below);have Lg:=qh ((Tw.out.dr.bl aB).bl ho.below);have Re:=qh ((TJ.out.dr.bl aB).bl ho.below);have TH:=qh ((Te.out.dr.bl aB).bl ho.below);have HE9:=qh (bO (bO (bO tU.out (below_drewN W1.heap.size W1 1)) aB) ho.below);obtain⟨V9,gV9⟩:=ay w9;rw[gV9] at TO Yn te Lg Re TH HE9 ⊢;clear aB ho fh gV9 fv eA Tw TJ Te tU uu dY;simp only[ξ,aq,ak,ao];refine bf 5 ?_;refine lK 6 ?_;intro w' aB;have Kr:=TH.out.bl aB;have hlen:=cP vC aQ (Ws++Vs.drop j)
   have tV:(Ws++Vs.drop j).length=n:=by
    have h1:=No.out.2.2.2.2;rw[hlen] at h1;omega
   have yY:j*5+5≤(aj vC (Ws++Vs.drop j)++junk).length:=by
    rw[Ε,hlen,tV];omega
   refine⟨w'.setCells gv (j*5) [J i1,J i2,γ A9 rn c9,μ lb,J at_],eO 59 (.tmp 26) (.tmp 25) rfl gv (j*5) (by first|rfl|(go_simp;done)|(simp[Act.eval];done)) [J i1,J i2,γ A9 rn c9,μ lb,J at_] rfl (Kr.there_ (j*5) 5 yY) (by kernel_rfl) (by simp[Τ]),?_⟩
   have mh:=Kr.cells_ (vC ((i1,i2),(A9,rn,c9,rL),lb,at_)) (j*5) w' _ yY;rw[uB aQ _ junk j _ (by omega),HSf.out] at mh;have Xb:∀{T:Υ} {A2:Option Κ} {n2 c2 k2:Nat} {xs:List ψ},w'.ownsRow w.heap.size T k2 (γ A2 n2 c2) n2 xs→59≠T→ζ gv≠(Ο A2 n2 c2).ownBlock:=fun h hT=>ch h Kr hT
   have hsl:(aj vC ((Ws++[((i1,i2),(A9,rn,c9,rL),lb,at_)])++Vs.drop (j+1))).length=n*5:=by
    rw[←HSf.out,cP vC aQ,JbD,tV]
   have VW:Hid ((w'.setCells gv (j*5) (vC ((i1,i2),(A9,rn,c9,rL),lb,at_))).ownsRow w.heap.size 59 5 (γ (ζ ⟨gv,0,ε⟩) n c') n (aj vC ((Ws++[((i1,i2),(A9,rn,c9,rL),lb,at_)])++Vs.drop (j+1)))):=qh (kG mh No.out.1 (by
    have h1:=No.out.2.1;rw[Ε] at h1 ⊢;rw[hsl,←h1,hlen,tV]) No.out.2.2.1 No.out.2.2.2.1 hsl)
   have HEs:Hid ((w'.setCells gv (j*5) (vC ((i1,i2),(A9,rn,c9,rL),lb,at_))).ownsRow w.heap.size 67 4 (γ B' m k') m (aj eC Es)):=qh (mK (bO HE9.out aB) (Xb (bO HE9.out aB) (by decide)) _ _);have EL:Hid (iK (w'.setCells gv (j*5) (vC ((i1,i2),(A9,rn,c9,rL),lb,at_))) w.heap.size (Ws++[((i1,i2),(A9,rn,c9,rL),lb,at_)])):=qh ((TO.out.up aB).cells Kr (by decide) _ _);have AX:Hid (σ w.heap.size w (w'.setCells gv (j*5) (vC ((i1,i2),(A9,rn,c9,rL),lb,at_)))):=qh (below_setCells (af te.out aB) No.out.1 _ _);have HGs:Hid (Whole (w'.setCells gv (j*5) (vC ((i1,i2),(A9,rn,c9,rL),lb,at_))) g 25 [γ (ζ ⟨gv,0,ε⟩) n c',γ B' m k']):=qh ((Lg.out.bl aB).cells_far ((Lg.out.bl aB).ne_ Kr (by decide)) _ _);have Pt:Hid (Whole (w'.setCells gv (j*5) (vC ((i1,i2),(A9,rn,c9,rL),lb,at_))) b1 25 [γ ε 0 0,γ ε 0 0]):=qh ((Re.out.bl aB).cells_far ((Re.out.bl aB).ne_ Kr (by decide)) _ _);obtain⟨W7,Fk⟩:=ay (w'.setCells gv (j*5) (vC ((i1,i2),(A9,rn,c9,rL),lb,at_)));rw[Fk] at VW HEs EL AX HGs Pt;rw[show w'.setCells gv (j*5) [J i1,J i2,γ A9 rn c9,μ lb,J at_]=W7 from Fk];clear aB Kr hlen tV yY mh Xb hsl Fk te Lg Re TH HE9 Yn TO;(try simp only[ξ,aq,ak,ao]);refine eX (by kernel_rfl) ?_ _;intro W8 cE;have oR:=qh (af AX.out cE);have Ge:=qh (HGs.out.bl cE);have ac8:=qh (Pt.out.bl cE);have HV8:=qh (bO VW.out cE);have HE8:=qh (bO HEs.out cE)
   have X5:=qh (EL.out.up cE);clear cE AX HGs Pt VW HEs EL;go_wp2;go_roundw
   case rel=>exact⟨j+1,Ws++[((i1,i2),(A9,rn,c9,rL),lb,at_)],by omega,by simp[hwl],by go_num,oR,Ge,ac8,HV8,HE8,X5,qh (by rw[HMx.out,List.map_append,HM.out];rfl)⟩
   case measure=>simp[intOf];omega
  ·obtain rfl:n=j:=by omega
   have kC:aj vC (Ws++Vs.drop n)=aj vC Ws:=by rw[List.drop_eq_nil_of_le (by have:=Hl.out;omega),List.append_nil]
   have hv:=HV.out;rw[kC] at hv;have hm:=HM.out;rw[List.take_of_length_le (by have:=Hl.out;omega)] at hm;have Ur:ζ b1≠(Ο A' n c').ownBlock:=ch hv HX.out (by decide);have G1:ζ b1≠(Ο B' m k').ownBlock:=ch HE.out HX.out (by decide)
   have HF:Hid (Cl ((wo.setCell ⟨b1,0,ε⟩ (γ A' n c')).setCell ⟨b1,1,ε⟩ (γ B' m k')) w.heap.size A' n c' Ws B' m k' Es):=qh
    ⟨aM (aM hv Ur _) Ur _,aM (aM HE.out G1 _) G1 _,(HR.out.cells HX.out (by decide) 0 [γ A' n c']).cells (HX.out.set_ 0 (γ A' n c')) (by decide) 1 [γ B' m k']⟩
   have HY:=qh ((HX.out.set_ 0 (γ A' n c')).set_ 1 (γ B' m k'));have Dv:=qh ((HB.out.setCell (p:=⟨b1,0,ε⟩) jK.out (γ A' n c')).setCell (p:=⟨b1,1,ε⟩) jK.out (γ B' m k'));have Hm:=qh hm;have c0:=HG.out.cell (i:=0) rfl;have c1:=HG.out.cell (i:=1) rfl;have f0:=HX.out.free 0;have f1:=HX.out.free 1;have k0:=HX.out.cell (i:=0) rfl;have k1:=HX.out.cell (i:=1) rfl;clear hv hm Ur G1 kC HV HE HR HX HB;go_wp2;exact bS rfl b1 rfl HY.out Tryz.underlying25 rfl (by kernel_rfl) rfl ⟨A',c',B',k',Ws,rfl,HF.out,Hm.out,Dv.out⟩
section
variable {w w':ο} {A B:Option Κ} {n c m k:Nat} {Vs:List VC} {Es:List EC}
theorem aR.bl (h:aR w A n c Vs B m k Es) (hb:σ w.heap.size w w'):aR w' A n c Vs B m k Es:=h.below hb
theorem aR.al (h:aR w A n c Vs B m k Es) (o:Obj):aR (w.alloc o) A n c Vs B m k Es:=h.below (ax w o)
theorem aR.dr (h:aR w A n c Vs B m k Es):aR w.drew A n c Vs B m k Es:=h.below (below_drewN w.heap.size w 1)
theorem aR.far (h:aR w A n c Vs B m k Es) (g i:Nat) (u:ψ) (ha:∀a,A=ζ a→0<n→a.block≠g) (hb:∀a,B=ζ a→0<m→a.block≠g) (hr:∀x∈Vs,∀a,x.2.1.1=ζ a→0<x.2.1.2.1→a.block≠g):
 aR (w.setCell ⟨g,i,ε⟩ u) A n c Vs B m k Es:=by
 have hs:(w.setCell ⟨g,i,ε⟩ u).heap.size=w.heap.size:=by simp[JbB]
 exact⟨by rw[hs];exact h.v.far_ ha u,by rw[hs];exact h.e.far_ hb u,fun x hx=>⟨(h.r x hx).1,by rw[hs];exact(h.r x hx).2.far_ (hr x hx) u⟩⟩
end
theorem RgOk.bl {w w':ο} {r:Rg} (h:RgOk w r) (hb:σ w.heap.size w w'):RgOk w' r:=h.below hb
theorem RgOk.al {w:ο} {r:Rg} (h:RgOk w r) (o:Obj):RgOk (w.alloc o) r:=h.below (ax w o)
theorem RgOk.dr {w:ο} {r:Rg} (h:RgOk w r):RgOk w.drew r:=h.below (below_drewN w.heap.size w 1)
structure tJ (Vs:List VC) (Es:List EC):Prop where
 v:∀x∈Vs,∀d∈x.2.1.2.2.2,TB d
 e:∀e∈Es,TB (e.1.1,e.1.2,0)∧TB (e.1.1,e.1.2,1)
 lv:∀x∈Vs,x.2.2.1.size≤maxLen
 le:∀x∈Es,x.2.1.size≤maxLen
theorem Aa (v:VC):(yN v).2.1.1=v.2.1.1∧(yN v).2.1.2.1≤30∧(yN v).2.1.2.1≤v.2.1.2.1∧(yN v).1=v.1∧(yN v).2.2=v.2.2∧∀d∈(yN v).2.1.2.2.2,d∈v.2.1.2.2.2:=by
 unfold yN;split
 ·exact⟨rfl,Δ _,by show 30≤_;omega,rfl,rfl,fun d hd=>List.mem_of_mem_take hd⟩
 ·exact⟨rfl,by omega,Δ _,rfl,rfl,fun d hd=>hd⟩
theorem tJ.few {Vs:List VC} {Es:List EC} (h:tJ Vs Es):tJ ((Vs.take 30).map yN) (Es.take 50):=by
 refine⟨fun x hx d hd=>?_,fun e he=>h.e e (List.mem_of_mem_take he),fun x hx=>?_,fun e he=>h.le e (List.mem_of_mem_take he)⟩
 ·obtain⟨y,hy,rfl⟩:=Α.1 hx;exact h.v y (List.mem_of_mem_take hy) d ((Aa y).2.2.2.2.2 d hd)
 ·obtain⟨y,hy,rfl⟩:=Α.1 hx
  have:=h.lv y (List.mem_of_mem_take hy)
  rw[(Aa y).2.2.2.2.1];exact this
theorem aR.put {W:ο} {A B:Option Κ} {n c m k g:Nat} {Vs:List VC} {Es:List EC} (h:aR W A n c Vs B m k Es) (ha:∀a,A=ζ a→0<n→a.block≠g) (hb:∀a,B=ζ a→0<m→a.block≠g) (hr:∀x∈Vs,∀a,x.2.1.1=ζ a→0<x.2.1.2.1→a.block≠g) (u v:ψ):
 aR ((W.setCell ⟨g,0,ε⟩ u).setCell ⟨g,1,ε⟩ v) A n c Vs B m k Es:=(h.far g 0 u ha hb hr).far g 1 v ha hb hr
def Cb (a b:Int × Int):Int:=mH a.1 a.2 b.1 b.2
theorem yL {a b c:Int × Int} (h:Cb a b<0) (k:Cb b c<0):Cb a c<0:=by
 unfold Cb at*;have h1:=se a.1 a.2 b.1 b.2 c.1 c.2 (by omega) (by omega);have h2:=j6 a.1 a.2 c.1 c.2;have h3:=tH a.1 a.2 b.1 b.2;rcases Int.lt_or_eq_of_le h1 with h4|h4
 ·exact h4
 ·obtain⟨e1,e2⟩:=h2.1 h4;rw[←e1,←e2] at k;omega
theorem Rc {a b:Int × Int} (h:Cb a b<0):a≠b:=by
 rintro rfl
 have:=(j6 a.1 a.2 a.1 a.2).2 ⟨rfl,rfl⟩
 unfold Cb at h;omega
theorem lg:∀(L:List (Int × Int)) (o:Option (Int × Int)),pP o L=τ↔(∀x∈L,bQ x.1 x.2=τ)∧(∀y,o=ζ y→∀x∈L,Cb y x<0)∧L.Pairwise (fun a b=>Cb a b<0)
 |[],o=>by simp[pP]
 |x::r,o=>by
  have e:pP o (x::r)=(bQ x.1 x.2 && (match o with|none=>τ|some y=>decide (mH y.1 y.2 x.1 x.2<0)) && pP (ζ x) r):=by cases o<;>rfl
  rw[e,Jar,Jar,lg r (ζ x),List.pairwise_cons];constructor
  ·rintro⟨⟨h1,h2⟩,h3,h4,h5⟩
   refine⟨fun y hy=>?_,fun y hy z hz=>?_,h4 x rfl,h5⟩
   ·rcases Η.1 hy with rfl|hy
    ·exact h1
    ·exact h3 y hy
   ·subst hy;have h6:Cb y x<0:=of_decide_eq_true h2;rcases Η.1 hz with rfl|hz
    ·exact h6
    ·exact yL h6 (h4 x rfl z hz)
  ·rintro⟨h1,h2,h3,h4⟩
   refine⟨⟨h1 x (Jai ..),?_⟩,fun y hy=>h1 y (Jad _ hy),fun y hy z hz=>?_,h4⟩
   ·cases o with
    |none=>rfl
    |some y=>exact decide_eq_true (h2 y rfl x (Jai ..))
   ·cases hy;exact h3 z hz
theorem rM {L:List (Int × Int)} (h:pP ε L=τ):L.Nodup:=
 List.Pairwise.imp (fun h=>Rc h) ((lg L ε).1 h).2.2
theorem Ih:∀(Es:List EC) (S:List D),(Es.map (·.1)).Nodup→(∀e∈Es,(e.1.1,e.1.2,(0:Int))∉S∧(e.1.1,e.1.2,(1:Int))∉S)→(Ml Es S).length=S.length+2*Es.length
 |[],S,_,_=>by simp[Ml]
 |e::r,S,hn,hS=>by
  rw[ι,List.nodup_cons] at hn;have h0:=hS e (Jai ..);have e1:yK (e.1.1,e.1.2,0) S=(e.1.1,e.1.2,0)::S:=by rw[yK,if_neg h0.1]
  have e2:yK (e.1.1,e.1.2,1) ((e.1.1,e.1.2,0)::S)=(e.1.1,e.1.2,1)::(e.1.1,e.1.2,0)::S:=by
   rw[yK,if_neg];rw[Η];rintro (h|h)
   ·simp at h
   ·exact h0.2 h
  rw[Ml,e1,e2,Ih r _ hn.2 (fun x hx=>?_)]
  ·simp only[JaH];omega
  ·have cu:x.1≠e.1:=fun q=>hn.1 (q▸Α.2 ⟨x,hx,rfl⟩)
   have hx':=hS x (Jad _ hx)
   have key:∀a b:Int,(x.1.1,x.1.2,a)≠(e.1.1,e.1.2,b):=fun a b q=>by
    simp only[Prod.mk.injEq] at q;exact cu (Prod.ext q.1 q.2.1)
   refine⟨fun q=>?_,fun q=>?_⟩<;>· rcases Η.1 q with q|q;exact key _ _ q;rcases Η.1 q with q|q;exact key _ _ q;first|exact hx'.1 q|exact hx'.2 q
structure bc (Vs:List VC) (Es:List EC):Prop where
 v24:Vs.length≤24
 e40:Es.length≤40
 rv:pP ε (Vs.map (·.1))=τ
 re:pP ε (Es.map (·.1))=τ
 tu:Vs.all uy=τ
 pm:(aH Vs).Perm (Ml Es [])
 lv:Vs.all (fun v=>dX v.2.2.1)=τ
 le:Es.all (fun v=>dX v.2.1)=τ
 av:Vs.all (fun v=>lF v.2.2.2)=τ
 ae:Es.all (fun v=>lF v.2.2)=τ
theorem Sa (Vs:List VC) (Es:List EC):yr Vs Es=0↔bc Vs Es:=by
 unfold yr Md;constructor
 ·intro h;split at h
  ·cases h
  ·rename_i h0;split at h
   ·cases h
   ·rename_i h1;split at h
    ·cases h
    ·rename_i h2;split at h
     ·cases h
     ·rename_i h3;simp only[decide_eq_true_eq,not_or,Bool.not_eq_true',Bool.not_eq_false,Jar] at h0 h1 h2 h3;exact⟨by omega,by omega,h1.1.1.1,h1.1.1.2,h1.1.2,(nV _ _).1 h1.2,h2.1,h2.2,h3.1,h3.2⟩
 ·intro h;have e0:decide (24<Vs.length∨40<Es.length)=ρ:=decide_eq_false (by have:=h.v24;have:=h.e40;omega);rw[e0,h.rv,h.re,h.tu,(nV _ _).2 h.pm,h.lv,h.le,h.av,h.ae];rfl
section
variable {Vs:List VC} {Es:List EC}
theorem bc.once (h:bc Vs Es):(aH Vs).Nodup:=h.pm.nodup_iff.2 (ux Es [] List.nodup_nil)
theorem bc.len (h:bc Vs Es):(aH Vs).length=2*Es.length:=by
 rw[h.pm.length_eq,Ih Es [] (rM h.re) (fun e _=>⟨by simp,by simp⟩)];simp
theorem XP (hn:(aH Vs).Nodup) {v:VC} (hv:v∈Vs) {d:D} (hd:d∈v.2.1.2.2.2):kj Vs d=(v.1,τ):=by
 induction Vs with
 |nil=>cases hv
 |cons u r ih=>
  rw[jH] at hn;rw[List.nodup_append] at hn
  by_cases hu:d∈u.2.1.2.2.2
  ·rw[G6 _ _ _ hu];rcases Η.1 hv with rfl|hv
   ·rfl
   ·exact absurd rfl (hn.2.2 d hu d (Jat.2 ⟨v,hv,hd⟩))
  ·rw[Oc _ _ _ hu];rcases Η.1 hv with rfl|hv
   ·exact absurd hd hu
   ·exact ih hn.2.1 hv
theorem bc.at (h:bc Vs Es) {v:VC} (hv:v∈Vs) {d:D} (hd:d∈v.2.1.2.2.2):kj Vs d=(v.1,τ):=XP h.once hv hd
theorem bc.edge (h:bc Vs Es) {v:VC} (hv:v∈Vs) {d:D} (hd:d∈v.2.1.2.2.2):(iw Es (d.1,d.2.1)).2=τ:=by
 have h1:=(FH Es d).2 (h.pm.mem_iff.1 (Jat.2 ⟨v,hv,hd⟩));unfold Gv at h1;rw[Jar] at h1;exact h1.1
end
def lq (v:VC) (s:ByteArray):VC:=(v.1,v.2.1,s,v.2.2.2)
theorem mw {α β:Type} (f:α→β) (L:List α) (j:Nat) (x y:α) (hx:L[j]? =ζ x) (h:f y=f x):(L.set j y).map f=L.map f:=by
 rw[List.map_set,h];apply List.ext_getElem?;intro i;rw[Jbz];split
 ·rename_i e;subst e;have hj:=(ν.1 hx).1;rw[List.length_map,if_pos hj,List.getElem?_map,hx];rfl
 ·rfl
theorem all_map {α β:Type} (f:α→β) (p:β→Bool) (L:List α):L.all (fun x=>p (f x))=(L.map f).all p:=by rw[List.all_map];rfl
theorem Gg {Vs Ws:List VC} {Es:List EC} (h:Ws.map vS=Vs.map vS):yr Ws Es=yr Vs Es:=by
 have hl:Ws.length=Vs.length:=by simpa using congrArg List.length h
 have e1:Ws.map (·.1)=Vs.map (·.1):=by
  have:=congrArg (List.map (fun s:(Int × Int) × List D × ByteArray × Int=>s.1)) h
  simpa [JaW,Function.comp_def,vS] using this
 have e2:Ws.map (·.2.1.2.2.2)=Vs.map (·.2.1.2.2.2):=by
  have:=congrArg (List.map (fun s:(Int × Int) × List D × ByteArray × Int=>s.2.1)) h
  simpa [JaW,Function.comp_def,vS] using this
 have e3:Ws.map (·.2.2.1)=Vs.map (·.2.2.1):=by
  have:=congrArg (List.map (fun s:(Int × Int) × List D × ByteArray × Int=>s.2.2.1)) h
  simpa [JaW,Function.comp_def,vS] using this
 have e4:Ws.map (·.2.2.2)=Vs.map (·.2.2.2):=by
  have:=congrArg (List.map (fun s:(Int × Int) × List D × ByteArray × Int=>s.2.2.2)) h
  simpa [JaW,Function.comp_def,vS] using this
 have r:∀Us:List VC,aH Us=(Us.map (·.2.1.2.2.2)).flatten:=fun Us=>by rw[aH,List.flatMap_def]
 have t:∀Us:List VC,Us.all uy=(Us.map (·.2.1.2.2.2)).all (fun L=>decide (L=aS L)):=fun Us=>by rw[List.all_map];rfl
 have l:∀Us:List VC,Us.all (fun v=>dX v.2.2.1)=(Us.map (·.2.2.1)).all dX:=fun Us=>by rw[List.all_map];rfl
 have a:∀Us:List VC,Us.all (fun v=>lF v.2.2.2)=(Us.map (·.2.2.2)).all lF:=fun Us=>by rw[List.all_map];rfl
 unfold yr;rw[hl,e1,r Ws,r Vs,e2,t Ws,t Vs,e2,l Ws,l Vs,e3,a Ws,a Vs,e4]
theorem bc.same {Vs Ws:List VC} {Es:List EC} (hf:bc Vs Es) (h:Ws.map vS=Vs.map vS):bc Ws Es:=(Sa Ws Es).1 ((Gg h).trans ((Sa Vs Es).2 hf))
theorem bc.label {Vs:List VC} {Es:List EC} (h:bc Vs Es) {j:Nat} {x:VC} (hx:Vs[j]? =ζ x) (s:ByteArray):yr (Vs.set j (lq x s)) Es=if dX s then 0 else 4:=by
 have hj:=(ν.1 hx).1;have e0:decide (24<(Vs.set j (lq x s)).length∨40<Es.length)=ρ:=decide_eq_false (by have:=h.v24;have:=h.e40;rw[JbD];omega);have e1:=mw (fun v:VC=>v.1) Vs j x (lq x s) hx rfl
 have e2:aH (Vs.set j (lq x s))=aH Vs:=by
  rw[aH,aH,List.flatMap_def,List.flatMap_def,mw (fun v:VC=>v.2.1.2.2.2) Vs j x (lq x s) hx rfl]
 have t:∀Us:List VC,Us.all uy=(Us.map (fun v:VC=>v.2.1.2.2.2)).all (fun L=>decide (L=aS L)):=fun Us=>by rw[List.all_map];rfl
 have a:∀Us:List VC,Us.all (fun v=>lF v.2.2.2)=(Us.map (fun v:VC=>v.2.2.2)).all lF:=fun Us=>by rw[List.all_map];rfl
 have e3:(Vs.set j (lq x s)).all uy=Vs.all uy:=by
  rw[t,t,mw (fun v:VC=>v.2.1.2.2.2) Vs j x (lq x s) hx rfl]
 have e4:(Vs.set j (lq x s)).all (fun v=>lF v.2.2.2)=Vs.all (fun v=>lF v.2.2.2):=by
  rw[a,a,mw (fun v:VC=>v.2.2.2) Vs j x (lq x s) hx rfl]
 have e5:(Vs.set j (lq x s)).all (fun v=>dX v.2.2.1)=dX s:=by
  rw[Bool.eq_iff_iff,Φ];constructor
  ·intro ha;exact ha (lq x s) (ω (i:=j) (by rw[Jbz,if_pos rfl,if_pos hj]))
  ·intro hs v hv;rcases List.mem_or_eq_of_mem_set hv with hv|rfl
   ·exact Φ.1 h.lv v hv
   ·exact hs
 unfold yr Md;rw[e0,e1,e2,e3,e4,e5,h.rv,h.re,h.tu,(nV _ _).2 h.pm,h.le,h.av,h.ae];cases dX s<;>rfl
theorem OZ {cs vs:List ψ} {o i:Nat} {u:ψ} (hc:∀j v,vs[j]? =ζ v→cs[o+j]? =ζ v) (hi:i<vs.length) (hl:o+vs.length≤cs.length):dB cs o (vs.set i u)=cs.set (o+i) u:=by
 unfold dB;rw[JbD];apply List.ext_getElem?;intro p;rw[Jbz];have ht:(cs.take o).length=o:=by rw[JaA];omega
 rcases JaM p o with h1|h1
 ·rw[Jab (by omega),List.getElem?_take,if_pos h1,if_neg (by omega)]
 ·rw[Jal (by omega),ht];rcases JaM (p - o) vs.length with h2|h2
  ·rw[Jab (by rw[JbD];exact h2),Jbz]
   by_cases h3:i=p - o
   ·subst h3;rw[if_pos rfl,if_pos h2,if_pos (by omega),if_pos (by omega)]
   ·rw[if_neg h3,if_neg (by omega)]
    have:=hc (p - o) _ (θ h2)
    rw[show o+(p - o)=p by omega] at this;rw[this,θ h2]
  ·rw[Jal (by rw[JbD];exact h2),JbD,JaS,if_neg (by omega)];congr 1;omega
theorem kh {α:Type} {f:α→List ψ} {s:Nat} (hs:∀x,(f x).length=s) {W:ο} {lo n c:Nat} {T:Υ} {A:Option Κ} {L:List α} (h:W.ownsRow lo T s (γ A n c) n (aj f L)) {j i:Nat} {x y:α} {u:ψ}
 (hx:L[j]? =ζ x) (hn:j<n) (hi:i<s) (hy:f y=(f x).set i u):
 ∃g junk,A=ζ ⟨g,0,ε⟩∧lo≤g∧Whole W g T (aj f L++junk)∧W.cell? ⟨g,j*s+i,ε⟩=(f x)[i]?∧W.frozen? ⟨g,j*s+i,ε⟩=ρ∧
  (W.setCell ⟨g,j*s+i,ε⟩ u).ownsRow lo T s (γ A n c) n (aj f (L.set j y)):=by
 obtain⟨g,junk,rfl,fV,hw,hl,tt,qM,na⟩:=dZ h (by omega);have hlen:=cP f hs L;have hj:=(ν.1 hx).1;have yY:(j+1)*s≤L.length*s:=Nat.mul_le_mul_right _ hj;rw[Nat.succ_mul] at yY
 have hg:∀p v,(f x)[p]? =ζ v→(aj f L++junk)[j*s+p]? =ζ v:=fun p v hv=>by
  have h1:=j0 f hs L j x hx p v hv;rw[Jab (ν.1 h1).1];exact h1
 have hi':i<(f x).length:=by rw[hs];exact hi
 have mh:dB (aj f L++junk) (j*s) (f y)=(aj f L++junk).set (j*s+i) u:=by
  rw[hy];exact OZ hg hi' (by rw[Ε,hs];omega)
 rw[uB hs L junk j y hj] at mh;have jd:=hw.set_ (j*s+i) u;rw[←mh] at jd
 refine⟨g,junk,rfl,fV,hw,?_,hw.free _,kG jd fV ?_ tt qM ?_⟩
 ·rw[θ hi'];exact hw.cell (hg i _ (θ hi'))
 ·rw[mh,JbD];exact hl
 ·rw[cP f hs,JbD,←hlen];exact na
theorem Fx {W:ο} {lo lo' k k' n n':Nat} {T T':Υ} {v v':ψ} {xs xs':List ψ} (h:W.ownsRow lo T k v n xs) (h':W.ownsRow lo' T' k' v' n' xs') (hT:T≠T'):v.ownBlock=ε∨v.ownBlock≠v'.ownBlock:=by
 rcases h.2 with⟨rfl,-⟩|⟨g,cap,cur,rfl,-,hg,-⟩
 ·exact .inl rfl
 ·refine .inr fun e=>?_
  rcases h'.2 with⟨rfl,-⟩|⟨g',aif,aj1,rfl,-,hg',-⟩
  ·cases e
  ·have e1:g=g':=Μ e;subst e1;rw[hg] at hg';injection Μ hg' with e2 e3 e4
   exact hT e3
theorem qu {W W':ο} {lo lo' k k' n n':Nat} {T T':Υ} {v v':ψ} {xs xs':List ψ} (h:W.ownsRow lo T k v n xs) (h':W.ownsRow lo' T' k' v' n' xs') (hT:T≠T') (hg:W.grownBy W' v'.ownBlock):W'.ownsRow lo T k v n xs:=h.kept hg (Fx h h' hT)
structure aY (g:Nat) (W W':ο):Prop where
 w:∀b T cs,Whole W b T cs→b≠g→T≠59→T≠67→T≠98→Whole W' b T cs
 s:W.heap.size≤W'.heap.size
theorem aY.of_below {g:Nat} {W W':ο} (h:σ W.heap.size W W'):aY g W W':=⟨fun b T cs hw _ _ _ _=>hw.bl h,h.size⟩
theorem aY.refl (g:Nat) (W:ο):aY g W W:=aY.of_below (Below.refl _ _)
theorem aY.trans {g:Nat} {W W1 W2:ο} (h:aY g W W1) (k:aY g W1 W2):aY g W W2:=⟨fun b T cs hw a b c d=>k.w _ _ _ (h.w _ _ _ hw a b c d) a b c d,Λ h.s k.s⟩
theorem aY.setS {g:Nat} {W W1:ο} (h:aY g W W1) (i:Nat) (u:ψ):aY g W (W1.setCell ⟨g,i,ε⟩ u):=
 ⟨fun b T' rI hw h1 h2 h3 h4=>(h.w _ _ _ hw h1 h2 h3 h4).far h1 u,by simpa [JbB] using h.s⟩
theorem aY.setT {g g':Nat} {W W1:ο} {T:Υ} {cs:List ψ} (h:aY g W W1) (hg:Whole W1 g' T cs) (hT:T=59∨T=67∨T=98) (i:Nat) (u:ψ):aY g W (W1.setCell ⟨g',i,ε⟩ u):=
 ⟨fun b T' rI hw h1 h2 h3 h4=>(h.w _ _ _ hw h1 h2 h3 h4).far ((h.w _ _ _ hw h1 h2 h3 h4).ne_ hg (by rcases hT with rfl|rfl|rfl<;>assumption)) u,by simpa [JbB] using h.s⟩
theorem aY.grown {g:Nat} {W W':ο} {lo k n c:Nat} {T:Υ} {A:Option Κ} {xs:List ψ} (ho:W.ownsRow lo T k (γ A n c) n xs) (hT:T=59∨T=67∨T=98) (hg:W.grownBy W' (Ο A n c).ownBlock):aY g W W':=
 ⟨fun b T' rI hw _ h2 h3 h4=>hw.grown hg (ch ho hw (by rcases hT with rfl|rfl|rfl<;>assumption)),hg.size⟩
theorem aY.box {g b:Nat} {W W':ο} {T:Υ} {cs rI:List ψ} (h:aY g W W') (hw:Whole W b T cs) (hs:Whole W g 28 rI) (h1:T≠28:=by decide) (h2:T≠59:=by decide) (h3:T≠67:=by decide) (h4:T≠98:=by decide):Whole W' b T cs:=h.w b T cs hw (hw.ne_ hs h1) h2 h3 h4
structure dK (w:ο) (lo g:Nat) (A:Option Κ) (n c:Nat) (Vs:List VC) (B:Option Κ) (m k:Nat) (Es:List EC) (C:Option Κ) (r rc:Nat) (G:List Gn) (W:ο):Prop where
 s:Whole W g 28 [γ A n c,γ B m k,γ C r rc]
 v:W.ownsRow lo 59 5 (γ A n c) n (aj vC Vs)
 e:W.ownsRow lo 67 4 (γ B m k) m (aj eC Es)
 rg:∀x∈Vs,rb W x.2.1
 gn:W.ownsRow lo 98 6 (γ C r rc) r (aj cB G)
 below:σ w.heap.size w W
 lo_:w.heap.size≤lo
 hi:lo≤W.heap.size
 gl:w.heap.size≤g
theorem jh {W w':ο} {b:Nat} (h:Kept (fun x=>x=b) W w'):W.grownBy w' (ζ b):=qt h
section
variable {w W:ο} {lo g:Nat} {A:Option Κ} {n c:Nat} {Vs:List VC} {B:Option Κ} {m k:Nat} {Es:List EC} {C:Option Κ} {r rc:Nat} {G:List Gn}
theorem dK.up {W':ο} (h:dK w lo g A n c Vs B m k Es C r rc G W) (hb:σ W.heap.size W W'):dK w lo g A n c Vs B m k Es C r rc G W':=
 ⟨h.s.bl hb,bO h.v hb,bO h.e hb,fun x hx=>(h.rg x hx).bl hb,bO h.gn hb,af h.below hb,h.lo_,Λ h.hi hb.size,h.gl⟩
theorem dK.vlen (h:dK w lo g A n c Vs B m k Es C r rc G W):Vs.length=n:=(aJ h.v).rlen aQ (by decide)
theorem dK.elen (h:dK w lo g A n c Vs B m k Es C r rc G W):Es.length=m:=(aJ h.e).rlen bF (by decide)
theorem dK.setV {A':Option Κ} {n' c':Nat} {Tm:List VC} {W':ο} (h:dK w lo g A n c Vs B m k Es C r rc G W) (hg:W.grownBy W' (Ο A n c).ownBlock) (hv:W'.ownsRow lo 59 5 (γ A' n' c') n' (aj vC Tm)) (hr:∀x∈Tm,x∈Vs∨rb W' x.2.1):
 dK w lo g A' n' c' Tm B m k Es C r rc G (W'.setCell ⟨g,0,ε⟩ (γ A' n' c')):=by
 have hs:=h.s.grown hg (ch h.v h.s (by decide));have he:=qu h.e h.v (by decide) hg;have xw:=qu h.gn h.v (by decide) hg;have fV:∀q,(Ο A n c).ownBlock=ζ q→lo≤q:=fun q e=>(h.v.lt q e).1
 refine⟨hs.set_ 0 _,aM hv (ch hv hs (by decide)) _,aM he (ch he hs (by decide)) _,fun x hx=>?_,aM xw (ch xw hs (by decide)) _,?_,h.lo_,?_,h.gl⟩
 ·rcases hr x hx with h1|h1
  ·exact((h.rg x h1).grown h.v (by decide) hg).cell hs (by decide) _ _
  ·exact h1.cell hs (by decide) _ _
 ·exact(h.below.grown hg h.below.size (fun q e=>Λ h.lo_ (fV q e))).setCell (p:=⟨g,0,ε⟩) h.gl _
 ·have:=hg.size
  have:=h.hi
  simpa [JbB] using by omega
theorem dK.setE {B':Option Κ} {m' k':Nat} {Zt:List EC} {W':ο} (h:dK w lo g A n c Vs B m k Es C r rc G W) (hg:W.grownBy W' (Ο B m k).ownBlock) (he:W'.ownsRow lo 67 4 (γ B' m' k') m' (aj eC Zt)):
 dK w lo g A n c Vs B' m' k' Zt C r rc G (W'.setCell ⟨g,1,ε⟩ (γ B' m' k')):=by
 have hs:=h.s.grown hg (ch h.e h.s (by decide));have hv:=qu h.v h.e (by decide) hg;have xw:=qu h.gn h.e (by decide) hg;have fV:∀q,(Ο B m k).ownBlock=ζ q→lo≤q:=fun q e=>(h.e.lt q e).1
 refine⟨hs.set_ 1 _,aM hv (ch hv hs (by decide)) _,aM he (ch he hs (by decide)) _,fun x hx=>?_,aM xw (ch xw hs (by decide)) _,?_,h.lo_,?_,h.gl⟩
 ·exact((h.rg x hx).grown h.e (by decide) hg).cell hs (by decide) _ _
 ·exact(h.below.grown hg h.below.size (fun q e=>Λ h.lo_ (fV q e))).setCell (p:=⟨g,1,ε⟩) h.gl _
 ·have:=hg.size
  have:=h.hi
  simpa [JbB] using by omega
theorem dK.setG {C':Option Κ} {r' rE:Nat} {G':List Gn} {W':ο} (h:dK w lo g A n c Vs B m k Es C r rc G W) (hg:σ W.heap.size W W') (hr:W'.ownsRow lo 98 6 (γ C' r' rE) r' (aj cB G')):
 dK w lo g A n c Vs B m k Es C' r' rE G' (W'.setCell ⟨g,2,ε⟩ (γ C' r' rE)):=by
 have h1:=h.up hg
 refine⟨h1.s.set_ 2 _,aM h1.v (ch h1.v h1.s (by decide)) _,aM h1.e (ch h1.e h1.s (by decide)) _,fun x hx=>(h1.rg x hx).cell h1.s (by decide) _ _,aM hr (ch hr h1.s (by decide)) _,h1.below.setCell (p:=⟨g,2,ε⟩) h.gl _,h.lo_,?_,h.gl⟩
 have:=h1.hi
 simpa [JbB] using this
theorem dK.dg (h:dK w lo g A n c Vs B m k Es C r rc G W):aR W A n c Vs B m k Es:=⟨aJ h.v,aJ h.e,fun x hx=>⟨(h.rg x hx).1,(h.rg x hx).2.1⟩⟩
theorem dK.glen (h:dK w lo g A n c Vs B m k Es C r rc G W):G.length=r:=(aJ h.gn).rlen cw (by decide)
theorem dK.bl {W':ο} (h:dK w lo g A n c Vs B m k Es C r rc G W) (hb:σ W.heap.size W W'):dK w lo g A n c Vs B m k Es C r rc G W':=h.up hb
theorem dK.al (h:dK w lo g A n c Vs B m k Es C r rc G W) (o:Obj):dK w lo g A n c Vs B m k Es C r rc G (W.alloc o):=h.up (ax W o)
theorem dK.dr (h:dK w lo g A n c Vs B m k Es C r rc G W):dK w lo g A n c Vs B m k Es C r rc G W.drew:=h.up (below_drewN W.heap.size W 1)
theorem dK.cellV (h:dK w lo g A n c Vs B m k Es C r rc G W) {i j:Nat} {v v':VC} {u:ψ} (hv:Vs[i]? =ζ v) (hj:j<5) (hc:vC v'=(vC v).set j u) (hr:v'.2.1=v.2.1∨rb W v'.2.1):
 ∃b cs,A=ζ ⟨b,0,ε⟩∧w.heap.size≤b∧Whole W b 59 cs∧W.cell? ⟨b,i*5+j,ε⟩=(vC v)[j]?∧W.frozen? ⟨b,i*5+j,ε⟩=ρ∧dK w lo g A n c (Vs.set i v') B m k Es C r rc G (W.setCell ⟨b,i*5+j,ε⟩ u)∧aY g W (W.setCell ⟨b,i*5+j,ε⟩ u):=by
 have hi:i<n:=by rw[←h.vlen];exact(ν.1 hv).1
 obtain⟨b,junk,rfl,fV,hw,oS,za,ho⟩:=kh aQ h.v hv hi hj hc
 refine⟨b,_,rfl,Λ h.lo_ fV,hw,oS,za,⟨h.s.far ((h.s.ne_ hw (by decide))) u,ho,?_,fun x hx=>?_,?_,h.below.setCell (p:=⟨b,i*5+j,ε⟩) (Λ h.lo_ fV) _,h.lo_,by simpa [JbB] using h.hi,h.gl⟩,(aY.refl g W).setT hw (.inl rfl) _ _⟩
 ·exact aM h.e (ch h.e hw (by decide)) _
 ·rcases List.mem_or_eq_of_mem_set hx with hx|rfl
  ·exact(h.rg x hx).cell hw (by decide) _ _
  ·rcases hr with e|hr
   ·rw[e];exact(h.rg v (ω hv)).cell hw (by decide) _ _
   ·exact hr.cell hw (by decide) _ _
 ·exact aM h.gn (ch h.gn hw (by decide)) _
theorem DX (h:dK w lo g A n c Vs B m k Es C r rc G W) (i:Nat) (hi:i<n) (hn:n≤1000):Ζ η 112 #[υ (ζ ⟨g,0,ε⟩),J (i:Int)] W fun e w'=>e=.returned (.tuple #[])∧∃A' c',dK w lo g A' (n - 1) c' (Vs.eraseIdx i) B m k Es C r rc G w'∧aY g W w':=by
 have hl:Vs.length=n:=h.vlen;obtain⟨b,junk,rfl,fV,hW,o7,tt,qM,na⟩:=dZ h.v (by omega);have HD:=qh (Mi b c i n Vs junk W hW hl o7 qM hi);have sS:(aj vC (Vs.eraseIdx i)).length=(n - 1)*5:=by rw[cP vC aQ,List.length_eraseIdx,if_pos (by omega),hl]
 have HF:Hid (∀w',Whole w' b 59 (aj vC (Vs.eraseIdx i)++([J 0,J 0,γ ε 0 0,μ {data:=#[]},J 0]++junk))→Kept (fun x=>x=b) W w'→dK w lo g (ζ ⟨b,0,ε⟩) (n - 1) c (Vs.eraseIdx i) B m k Es C r rc G (w'.setCell ⟨g,0,ε⟩ (γ (ζ ⟨b,0,ε⟩) (n - 1) c))):=qh (fun w' h1 h2=>h.setV (jh h2) (kG (junk:=[J 0,J 0,γ ε 0 0,μ {data:=#[]},J 0]++junk) h1 fV (by
  rw[Ε,sS,Ε,show([J 0,J 0,γ ε 0 0,μ {data:=#[]},J 0]:List ψ).length=5 from rfl];rw[Ε,na] at o7;omega) (by omega) qM sS) (fun x hx=>.inl (List.mem_of_mem_eraseIdx hx)))
 have Wo:Hid (∀w',Kept (fun x=>x=b) W w'→aY g W (w'.setCell ⟨g,0,ε⟩ (γ (ζ ⟨b,0,ε⟩) (n - 1) c))):=qh (fun w' h2=>(aY.grown h.v (.inl rfl) (jh h2)).setS _ _);have HS:=qh h.s;have cu:b≠g:=fun e=>ch h.v h.s (by decide) (by rw[←e];rfl)
 have c0:=h.s.cell (i:=0) rfl;have jo:Jaw.wrap ((i:Int)+1)=(i:Int)+1:=by rw[JaT];omega
 have Hk:Hid (∀w',Kept (fun x=>x=b) W w'→(w'.cell? ⟨g,0,ε⟩).isSome=τ∧w'.frozen? ⟨g,0,ε⟩=ρ):=qh (fun w' h2=>by
  have hs:=HS.out.grown (jh h2) (fun e=>cu (Μ e).symm);exact⟨by rw[hs.cell (i:=0) rfl];rfl,hs.free _⟩)
 clear hW o7 na sS h cu;go_enter Tryz.func112,Tryz.ntmps112
 go_wp2_with (first
  |(go_at_call 139
    refine HD.out.mono ?_;rintro e w3 ⟨rfl,h1,h2⟩;have HF3:=qh (HF.out w3 h1 h2);have OF:=qh (Wo.out w3 h2);obtain⟨vK,EB⟩:=Hk.out w3 h2;obtain⟨vk,vK⟩:=Option.isSome_iff_exists.1 vK;clear h1 h2))
 go_end0;exact⟨rfl,_,_,HF3.out,OF.out⟩
theorem Oa (h:dK w lo g A n c Vs B m k Es C r rc G W) (i:Nat) (hi:i<m) (hn:m≤1000):Ζ η 124 #[υ (ζ ⟨g,0,ε⟩),J (i:Int)] W fun e w'=>e=.returned (.tuple #[])∧∃B' k',dK w lo g A n c Vs B' (m - 1) k' (Es.eraseIdx i) C r rc G w'∧aY g W w':=by
 have hl:Es.length=m:=h.elen;obtain⟨b,junk,rfl,fV,hW,o7,tt,qM,na⟩:=dZ h.e (by omega);have HD:=qh (NM b k i m Es junk W hW hl o7 qM hi);have sS:(aj eC (Es.eraseIdx i)).length=(m - 1)*4:=by rw[cP eC bF,List.length_eraseIdx,if_pos (by omega),hl]
 have HF:Hid (∀w',Whole w' b 67 (aj eC (Es.eraseIdx i)++([J 0,J 0,μ {data:=#[]},J 0]++junk))→Kept (fun x=>x=b) W w'→dK w lo g A n c Vs (ζ ⟨b,0,ε⟩) (m - 1) k (Es.eraseIdx i) C r rc G (w'.setCell ⟨g,1,ε⟩ (γ (ζ ⟨b,0,ε⟩) (m - 1) k))):=qh (fun w' h1 h2=>h.setE (jh h2) (kG (junk:=[J 0,J 0,μ {data:=#[]},J 0]++junk) h1 fV (by
  rw[Ε,sS,Ε,show([J 0,J 0,μ {data:=#[]},J 0]:List ψ).length=4 from rfl];rw[Ε,na] at o7;omega) (by omega) qM sS))
 have Wo:Hid (∀w',Kept (fun x=>x=b) W w'→aY g W (w'.setCell ⟨g,1,ε⟩ (γ (ζ ⟨b,0,ε⟩) (m - 1) k))):=qh (fun w' h2=>(aY.grown h.e (.inr (.inl rfl)) (jh h2)).setS _ _);have HS:=qh h.s;have cu:b≠g:=fun e=>ch h.e h.s (by decide) (by rw[←e];rfl)
 have c0:=h.s.cell (i:=1) rfl;have jo:Jaw.wrap ((i:Int)+1)=(i:Int)+1:=by rw[JaT];omega
 have Hk:Hid (∀w',Kept (fun x=>x=b) W w'→(w'.cell? ⟨g,1,ε⟩).isSome=τ∧w'.frozen? ⟨g,1,ε⟩=ρ):=qh (fun w' h2=>by
  have hs:=HS.out.grown (jh h2) (fun e=>cu (Μ e).symm);exact⟨by rw[hs.cell (i:=1) rfl];rfl,hs.free _⟩)
 clear hW o7 na sS h cu;go_enter Tryz.func124,Tryz.ntmps124
 go_wp2_with (first
  |(go_at_call 154
    refine HD.out.mono ?_;rintro e w3 ⟨rfl,h1,h2⟩;have HF3:=qh (HF.out w3 h1 h2);have OF:=qh (Wo.out w3 h2);obtain⟨vK,EB⟩:=Hk.out w3 h2;obtain⟨vk,vK⟩:=Option.isSome_iff_exists.1 vK;clear h1 h2))
 go_end0;exact⟨rfl,_,_,HF3.out,OF.out⟩
end
theorem N8 {P:Program} {fn:Func} {R:Ending→ο→Prop} {a:Act} {w:ο} {p:Tmp} {t:Υ} (h:fn.results=#[.cell p t]) (g:Nat) {t':Υ} {cs:List ψ} {d:TypeDesc}
 (hp:a.tmps.getD p undef=υ (ζ ⟨g,0,ε⟩)) (hW:Whole w g t' cs) (hu:P.underlying t=ζ d) (hd:d.isRow=τ) (hi:(P.info? t).map (·.size)=ζ cs.length)
 (RD:a.defers=[]) (hR:R (.returned (φ cs.toArray)) w):bodyPost P fn R .ret a w:=by
 refine bodyPost_ret (v:=φ cs.toArray) ?_ RD hR
 have hl:=run_loadVar_mid (P:=P) w g 0 t cs d (fun j v hv=>by
  have:=hW.cell hv
  simpa using this) hu hd hi
 have wv:=hp;rw[Array.getD_eq_getD_getElem?] at wv;simp[results,h,wv,asAddr,Sem.run_bind,Result.andThen,hl]
theorem DW (x1 x2:Int) (w:ο):Ζ η 115 #[φ #[J x1,J x2]] w fun e w'=>e=.returned (φ #[J x1,J x2,J 0,J x1,J x2,J 1])∧σ w.heap.size w w':=by
 have hB:=qh (aE (ax w (δ #[J x1,J x2] 30)) (δ #[J x1,J x2,J 0,J x1,J x2,J 1] 141));have hW:Hid (Whole ((w.alloc (δ #[J x1,J x2] 30)).alloc (δ #[J x1,J x2,J 0,J x1,J x2,J 1] 141)) (w.heap.size+1) 141 [J x1,J x2,J 0,J x1,J x2,J 1]):=qh (Whole.new2 (by simp));go_enter Tryz.func115,Tryz.ntmps115;go_wp2;exact N8 rfl (w.heap.size+1) rfl hW.out Tryz.underlying141 rfl (by kernel_rfl) rfl ⟨rfl,hB.out⟩
theorem Ui (G:List Gn) (x:Gn) (i n:Nat) (cf:Nat→Int) (hl:G.length=n) (IY:∀t y,G[t]? =ζ y→cU y x=cf t) (h1:∀t,t<i→cf t<0) (h2:∀t,i≤t→t<n→0≤cf t) (vu:∀t,t<n→cf t=0→∀s,s<t→cf s<0):
 (G.any fun y=>decide (y.1=x.1))=(decide (i<n) && decide (cf i=0)):=by
 have hz:∀y:Gn,cU y x=0↔y.1=x.1:=fun y=>by
  unfold cU;rw[uq];exact⟨fun h=>Prod.ext h.1 (Prod.ext h.2.1 h.2.2),fun h=>by rw[h];exact⟨rfl,rfl,rfl⟩⟩
 rw[Bool.eq_iff_iff,List.any_eq_true,Jar,decide_eq_true_iff,decide_eq_true_iff];constructor
 ·rintro⟨y,hy,e⟩;obtain⟨t,ht,rfl⟩:=List.getElem_of_mem hy;have hg:G[t]? =ζ G[t]:=θ ht;have hc:cf t=0:=by rw[←IY t _ hg];exact(hz _).2 (of_decide_eq_true e)
  have hit:i≤t:=by
   rcases JaM t i with q|q
   ·have:=h1 t q;omega
   ·exact q
  have hti:t=i:=by
   rcases JaM i t with q|q
   ·have:=vu t (by omega) hc i q
    have:=h2 i (Δ _) (by omega)
    omega
   ·omega
  exact⟨by omega,by rw[←hti];exact hc⟩
 ·rintro⟨hi,hc⟩;have hg:G[i]? =ζ G[i]:=θ (by omega);exact⟨G[i],List.getElem_mem _,decide_eq_true ((hz _).1 (by rw[IY i _ hg];exact hc))⟩
theorem JQ {G:List Gn} {x:Gn} (h:(G.any fun y=>decide (y.1=x.1))=ρ) (hn:¬G.length≥400):dJ G x=px G x:=by unfold dJ;rw[h,if_neg (by simpa using hn)]
theorem Ks {G:List Gn} {x:Gn} (h:(G.any fun y=>decide (y.1=x.1))=ρ) (hn:G.length≥400):dJ G x=G:=by unfold dJ;rw[h,if_pos (by simpa using hn)]
theorem Gb {G:List Gn} {x:Gn} (h:(G.any fun y=>decide (y.1=x.1))=τ) (hn:¬G.length - 1≥400):dJ G x=px G x:=by unfold dJ;rw[h,if_neg (by simpa using hn)]
theorem Mg (A:Option Κ) (n c:Nat) (G:List Gn) (x:Gn) (w:ο) (h:aX w w.heap.size 6 A n c (aj cB G)) (hn:n≤400) (cf:Nat→Int) (IY:∀t y,G[t]? =ζ y→cU y x=cf t) (kK:∀a b,a≤b→b<n→cf b<0→cf a<0) (vu:∀t,t<n→cf t=0→∀s,s<t→cf s<0):
 Ζ η 150 #[γ A n c,φ #[J x.1.1,J x.1.2.1,J x.1.2.2,J x.2.1,J x.2.2.1,J x.2.2.2]] w fun e w'=>∃A' c',e=.returned (.slice A' (dJ G x).length c')∧w'.ownsRow w.heap.size 98 6 (.slice A' (dJ G x).length c') (dJ G x).length (aj cB (dJ G x))∧σ w.heap.size w w':=by
 have H:=qh h;have Hl:=qh (h.rlen cw (by decide));have Py:=qh IY;have HM:=qh kK;obtain⟨G2,gG2⟩:=ay (dJ G x);obtain⟨N2,gN2⟩:=ay G2.length;rw[gG2,gN2];have fZ:=qh gG2;have pO:=qh gN2;have Js:=qh vu;clear h IY kK vu gG2 gN2;go_enter Tryz.func150,Tryz.ntmps150
 go_upto_if 20 with (first
  |(go_at_call 81
    refine(Jd A n c (aj cB G) _ (by exact H.out.bl (ax _ _)) (cz cB j9 G) (by omega)).mono ?_
    rintro e w1 ⟨A1,c1,rfl,ho1⟩;have mX:=qh ho1;have aI:=qh ((Whole.new_ w 98 [J x.1.1,J x.1.2.1,J x.1.2.2,J x.2.1,J x.2.2.1,J x.2.2.2]).below ho1.below);have eA:Hid (σ w.heap.size w w1):=qh (af (ax w (δ #[J x.1.1,J x.1.2.1,J x.1.2.2,J x.2.1,J x.2.2.1,J x.2.2.2] 98)) ho1.below);have l0:=aI.out.cell (i:=0) rfl;have l1:=aI.out.cell (i:=1) rfl;have l2:=aI.out.cell (i:=2) rfl;clear ho1)
  |(go_at_call 165
    refine(DE A n c G x.1.1 x.1.2.1 x.1.2.2 _ (by exact H.out.bl eA.out) (by omega) cf Py.out HM.out).mono ?_
    rintro e w2 ⟨i,lh,hi1,VA,rfl,ar⟩;have HI:=qh (Hs G x i cf Py.out (by rw[Hl.out];exact lh) hi1 (by rw[Hl.out];exact VA));have adj:=qh (Ui G x i n cf Hl.out Py.out hi1 VA Js.out);have fW:=qh (mX.out.up ar);have aV:=qh (aI.out.below ar);have bX:=qh (af eA.out ar);clear hi1 VA ar mX aI eA l0 l1 l2 H Py HM))
 obtain⟨bt,Lf⟩:=ay ((decide (i<n) && decide (cf i=0)));rw[Lf];have Vm:=qh (adj.out.trans Lf);have Gbt:=qh Lf;clear Lf;have l0:=aV.out.cell (i:=0) rfl;have l1:=aV.out.cell (i:=1) rfl;have l2:=aV.out.cell (i:=2) rfl;have l3:=aV.out.cell (i:=3) rfl;have l4:=aV.out.cell (i:=4) rfl;have l5:=aV.out.cell (i:=5) rfl;cases bt with
 |false=>
  by_cases h4:n=400
  ·have q1:(400:Int)≤(n:Int):=by omega
   have q2:400≤n:=by omega
   have K9:Hid (G2=G):=qh (by rw[←fZ.out,Ks Vm.out (by rw[Hl.out];show n≥400;omega)]);have hN:N2=n:=by rw[←pO.out,K9.out,Hl.out]
   have HR4:Hid (w2.ownsRow w.heap.size 98 6 (γ A1 n c1) n (aj cB G2)):=qh (by rw[K9.out];exact fj fW.out.own (by simp));clear HI aV fW;subst hN;go_wp2;go_ret;exact⟨_,_,rfl,HR4.out,bX.out⟩
  ·have q1:¬(400:Int)≤(n:Int):=by omega
   have q2:¬400≤n:=by omega
   have K9:Hid (G2=G.take i++x::G.drop i):=qh (by
    rw[←fZ.out,JQ Vm.out (by rw[Hl.out];show ¬n≥400;omega),HI.out,if_neg];rintro⟨q3,q4⟩;have hb:=Gbt.out;rw[decide_eq_true (show i<n by rw[←Hl.out];exact q3),decide_eq_true q4] at hb;cases hb)
   clear HI
   go_wp2_with (first
    |(go_at_call 168
      refine(Fy x (by exact fW.out.up (ax w2 _)) (by exact Whole.new_ w2 98 (cB x)) (by exact Ow.ne_ fW.out (Δ _)) (by omega) lh).mono ?_
      rintro e w4 ⟨A4,c4,rfl,Y2⟩;have oW:=qh Y2;clear Y2 fW aV bX l0 l1 l2 l3 l4 l5))
   have hN:N2=n+1:=by
    rw[←pO.out,K9.out,Ε,JaH,JaA,List.length_drop,Hl.out];omega
   have hr4:=oW.out.own;rw[←K9.out] at hr4;have HR4:=qh (fj hr4 (B':=w.heap.size) (by simp));have gW:Hid (σ w.heap.size w w4):=qh (af (ax w (δ #[J x.1.1,J x.1.2.1,J x.1.2.2,J x.2.1,J x.2.2.1,J x.2.2.2] 98)) oW.out.below);clear hr4 oW;subst hN;go_wp2;go_ret;exact⟨A4,c4,rfl,HR4.out,gW.out⟩
 |true=>
  have hb:=Gbt.out;rw[Jar,decide_eq_true_iff,decide_eq_true_iff] at hb;have fh:=hb.1
  have K9:Hid (G2=G.set i x):=qh (by
   rw[←fZ.out,Gb Vm.out (by rw[Hl.out];show ¬n - 1≥400;omega),HI.out,if_pos ⟨by rw[Hl.out];exact hb.1,hb.2⟩])
  obtain⟨p,hp⟩:=ay (n - 1);have e1:(n:Int) - 1=(p:Int):=by omega
  have e2:Jaw.wrap (p:Int)=(p:Int):=IntWalk.i64_in _ (by omega);have q3:decide ((400:Int)≤(p:Int))=ρ:=decide_eq_false (by omega);have q4:decide (400≤p)=ρ:=decide_eq_false (by omega);obtain⟨b,junk,rfl,fV,hW,o7,tt,qM,na⟩:=dZ fW.out.own (by omega);have hN:N2=n:=by rw[←pO.out,K9.out,JbD,Hl.out]
  have qL:σ w.heap.size w (w2.setCells b (i*6) (cB x)):=below_setCells bX.out (by have:=fV;simp at this;omega) _ _;have hW3:=hW.cells_ (cB x) (i*6) w2 _ (by rw[o7,cw];omega);rw[uB cw G junk i x (by rw[Hl.out];exact fh),←K9.out] at hW3;have ox:(aj cB G2).length=n*6:=by rw[cP cB cw,pO.out,hN]
  have hO3:=kG hW3 fV (by rw[Ε,ox,←o7,Ε,na]) tt qM ox;have lk:=qh (fj hO3 (B':=w.heap.size) (by simp));have cI:=qh qL;have HTh:=qh (hW.there_ (i*6) 6 (by rw[o7];omega));have Ru:(i:Int)<(n:Int):=by omega
  clear HI K9 hb fV hW o7 qM na qL hW3 ox hO3 fW bX hp;subst hN;go_upto_region 9 with fail
  refine wp_region_lit ?_;refine ah (v:=?_) (ζ 27) rfl (by rfl) ?_ ?_;rotate_left
  ·go_simp;(try with_reducible rfl)
  simp only[ξ,aq,ak,ao];refine ah (v:=?_) (ζ 28) rfl (by rfl) ?_ ?_;rotate_left
  ·go_simp;(try with_reducible rfl)
  simp only[ξ,aq,ak,ao];refine bw (ζ 29) rfl (by rfl) 98 (.tmp 3) rfl _ rfl 98 (cB x) _ (by exact aV.out) Tryz.underlying98 rfl (by kernel_rfl) ?_;simp only[ξ,aq,ak,ao];refine ah (v:=?_) (ζ 30) rfl (by rfl) ?_ ?_;rotate_left
  ·go_simp;(try with_reducible rfl)
  simp only[ξ,aq,ak,ao];refine jZ rfl (by rfl) (eO 98 (.tmp 30) (.tmp 29) rfl b (i*6) rfl (cB x) rfl HTh.out (by kernel_rfl) (j9 x)) ?_;clear l0 l1 l2 l3 l4 l5 aV HTh;go_wp2;go_ret;exact⟨_,_,rfl,lk.out,cI.out⟩
end Go.Proofs.YtpdpbfmiahjiiaaGreat
