/- Several texts in one. -/
import Derived.Test.YtpdpbfmiahjiiaaGreatPpAA
import Derived.Test.YtpdpbfmiahjiiaaGreatPpAB
import Derived.Test.YtpdpbfmiahjiiaaGreatPpAC
import Derived.Test.YtpdpbfmiahjiiaaGreatPpAD
import Derived.Test.YtpdpbfmiahjiiaaGreatPpAE
import Derived.Test.YtpdpbfmiahjiiaaGreatPpAH
import Derived.Test.YtpdpbfmiahjiiaaGreatPpAI
import Derived.Test.YtpdpbfmiahjiiaaGreatPpAJ
import Derived.BigQuiet
import Derived.Deep.QuietTactic
import Derived.Deep.RegionHeld3
import Derived.Lib.Hide
import Derived.WalkKit
set_option linter.unusedSectionVars false
set_option linter.unusedSimpArgs false
set_option linter.unusedVariables false
set_option maxRecDepth 100000
set_option maxHeartbeats 16000000
namespace Go.Proofs.YtpdpbfmiahjiiaaGreat
open Go.RowKit
open _root_.Go.Value renaming slice→γ,string→μ,agg→φ,bool→Β,slice→Ο
open _root_.Go.Obj renaming cells→δ
open _root_.Option renaming none→ε,some→ζ,some→Jae
open _root_.Go.Proofs.Tryz renaming prog→η
open _root_.List renaming map_cons→ι,mem_of_getElem?→ω,mem_map→Α,length_append→Ε,length_map→Ρ,all_eq_true→Φ,mem_append→Jan,mem_singleton→Jao,mem_flatMap→Jat,map_map→JaW,take_add_one→Jbc,pairwise_map→Jbg
open _root_.Go.Act renaming put→ξ
open _root_.Go renaming World→ο,Value→ψ,Calls→Ζ,Addr→Κ,TypeId→Υ
open _root_.Bool renaming false→ρ,true→τ,and_eq_true→Jar
open _root_.Go.RowKit renaming Below→σ
open _root_.Nat renaming le_refl→Δ,le_trans→Λ,lt_of_lt_of_le→JaK
open _root_.Go.RowKit.Below renaming refl→Θ
open _root_.Option.some renaming inj→Μ
open _root_.Go.IntKind renaming i64→Jaw
open _root_.Go.Builtin renaming append_→JaY
structure PR (w:ο) (lo:Nat) (At:Option Κ) (ct:Nat) (T:List D) (Al:Option Κ) (cl:Nat) (L:List D) (Ao:Option Κ) (co:Nat) (X:List (Rw D)) (W:ο):Prop where
 ow:Ow w lo 32 3 (γ At T.length ct) T.length (aA T) W
 l:W.ownsRow lo 32 3 (γ Al L.length cl) L.length (aA L)
 r:RowsIn W lo 57 32 3 J7 Ao X.length co X
 nl:∀g,(Ο Al L.length cl).ownBlock=ζ g→(Ο At T.length ct).ownBlock≠ζ g
 nx:∀x∈X,∀g,(IM x).ownBlock=ζ g→(Ο At T.length ct).ownBlock≠ζ g
section
variable {w W W':ο} {lo:Nat} {At:Option Κ} {ct:Nat} {T:List D} {Al:Option Κ} {cl:Nat} {L:List D} {Ao:Option Κ} {co:Nat} {X:List (Rw D)}
theorem PR.up (h:PR w lo At ct T Al cl L Ao co X W) (hb:σ W.heap.size W W'):PR w lo At ct T Al cl L Ao co X W':=
 ⟨h.ow.up hb,bO h.l hb,h.r.up hb,h.nl,h.nx⟩
theorem PR.bl (h:PR w lo At ct T Al cl L Ao co X W) (hb:σ W.heap.size W W'):PR w lo At ct T Al cl L Ao co X W':=h.up hb
theorem PR.al (h:PR w lo At ct T Al cl L Ao co X W) (o:Obj):PR w lo At ct T Al cl L Ao co X (W.alloc o):=h.up (ax W o)
theorem PR.dr (h:PR w lo At ct T Al cl L Ao co X W):PR w lo At ct T Al cl L Ao co X W.drew:=h.up ((Θ _ _).drew)
theorem PR.out (h:PR w lo At ct T Al cl L Ao co X W) (A9:Option Κ) (c9:Nat) (F:List D) (hf:W.ownsRow lo 32 3 (γ A9 F.length c9) F.length (aA F)) (hd:∀y∈X,∀a b,y.1=ζ a→A9=ζ b→a.block≠b.block)
 (ht:∀g,(Ο A9 F.length c9).ownBlock=ζ g→(Ο At T.length ct).ownBlock≠ζ g) (hn:X.length≤1000000) (A1:Option Κ) (c1:Nat) (hr:aX W W.heap.size 1 A1 1 c1 [γ A9 F.length c9]):
 ∃A' c' W',(JaY #[86,86] 86 #[γ Ao X.length co,γ A1 1 c1]).run η W=.ok (γ A' (X.length+1) c') W'∧PR w lo At ct T Al cl L A' c' (X++[(A9,c9,F)]) W'∧σ lo W W':=by
 obtain⟨iR,hiR,hr0,Ew,yS⟩:=aW JC;obtain⟨A',c',W2,cj,hR,hb,hg⟩:=h.r.push (P:=η) ((A9,c9,F):Rw D) (by rw[RV];exact hf) hd 86 86 iR _ Tryz.underlying86 hiR hr0 Ew yS rfl (by decide) hn h.ow.hi A1 c1 hr
 have hk:∀{v:ψ} {n:Nat} {xs:List ψ},W.ownsRow lo 32 3 v n xs→W2.ownsRow lo 32 3 v n xs:=fun {v n xs} ho=>ho.kept hg (by
  cases hv:v.ownBlock with
  |none=>exact .inl rfl
  |some g=>exact .inr fun q=>tO h.r.row ho (by decide) q.symm hv)
 have fV:∀k,(Ο Ao X.length co).ownBlock=ζ k→lo≤k:=fun k hk=>(h.r.row.lt k hk).1
 refine⟨A',c',W2,cj,⟨⟨hk h.ow.own,h.ow.below.grown hg h.ow.below.size (fun k e=>Λ h.ow.lo (fV k e)),h.ow.lo,Λ h.ow.hi hg.size⟩,hk h.l,?_,h.nl,fun x hx=>?_⟩,hb⟩
 ·rw[Ε];exact hR
 ·rcases Jan.1 hx with hx|hx
  ·exact h.nx x hx
  ·obtain rfl:=Jao.1 hx;exact ht
theorem PR.tell (h:PR w lo At ct T Al cl L Ao co X W) {A9:Option Κ} {c9:Nat} {F:List D} (hx:(A9,c9,F)∈X) (hn:T.length+F.length≤1000000):
 ∃A' c' W',(JaY #[57,57] 57 #[γ At T.length ct,γ A9 F.length c9]).run η W=.ok (.slice A' (T++F).length c') W'∧PR w lo A' c' (T++F) Al cl L Ao co X W'∧σ lo W W':=by
 obtain⟨i0,FG,oX,jL,kd⟩:=aW oJ
 have hr:aX W W.heap.size 3 A9 F.length c9 (aA F):=by
  have:=aJ (h.r.one _ hx)
  rw[RV] at this;exact this
 obtain⟨v,W2,cj,fz,hb,hg,ho⟩:=Ow.app2 (P:=η) 57 57 32 i0 _ 3 24 lo Tryz.underlying57 FG oX jL kd rfl (by decide) _ T.length _ h.ow _ A9 F.length c9 (aA F) hr (eH F) (by unfold maxLen;omega) (by omega);rw[←fm,←Ε] at fz;obtain⟨A',c',rfl,-⟩:=fz.rds
 have tV:∀{u:ψ} {n:Nat} {xs:List ψ},W.ownsRow lo 32 3 u n xs→(∀g,u.ownBlock=ζ g→(Ο At T.length ct).ownBlock≠ζ g)→∀g,u.ownBlock=ζ g→(Ο A' (T++F).length c').ownBlock≠ζ g:=fun {u n xs} hu cu g qW q=>by
  rcases ho with e|e
  ·exact cu g qW (e▸q)
  ·rw[e] at q
   have:=(hu.lt g qW).2
   have:=Μ q
   omega
 refine⟨A',c',W2,cj,⟨fz,h.l.kept hg ?_,h.r.far hg (fun g e q=>tO h.r.row h.ow.own (by decide) q e) (fun x hx g e q=>h.nx x hx g q e),tV h.l h.nl,fun x hx=>tV (h.r.one x hx) (h.nx x hx)⟩,hb⟩
 cases hv:(Ο Al L.length cl).ownBlock with
 |none=>exact .inl rfl
 |some g=>exact .inr fun q=>h.nl g hv q.symm
end
structure QS (lo:Nat) (A9:Option Κ) (c9:Nat) (F:List D) (W:ο):Prop where
 own:W.ownsRow lo 32 3 (γ A9 F.length c9) F.length (aA F)
theorem QS.bl {lo:Nat} {A9:Option Κ} {c9:Nat} {F:List D} {W W':ο} (h:QS lo A9 c9 F W) (hb:σ W.heap.size W W'):QS lo A9 c9 F W':=⟨bO h.own hb⟩
structure adI (n:Nat) (Vs:List VC):Prop where
 n:n≤1000000
 r:∀x∈Vs,x.2.1.2.1≤1000000
 s:∀v∈Vs,∀d∈v.2.1.2.2.2,wfS d
 k:∀S,LF (Dl Vs) S→S.length≤1000000
 l:(dsV Vs).length≤1000000
theorem bc.pre {A:Option Κ} {n c:Nat} {Vs:List VC} {B:Option Κ} {m k:Nat} {Es:List EC} {w:ο} (hf:bc Vs Es) (h:aR w A n c Vs B m k Es) (hg:tJ Vs Es):adI n Vs:=by
 have h8:=hf.l80;obtain⟨h1,h2,h3⟩:=hf.small h;exact⟨by omega,fun x hx=>by have:=h3 x hx;omega,fun v hv d hd=>hf.wfS hg (jF.2 ⟨v,hv,hd⟩),fun S hS=>by have:=hS.formed hf hg;omega,by rw[UH];omega⟩
def Rm (v:VC):Bool:=decide (v.2.1.2.2.2=[])
theorem EZ {Vs:List VC} {j:Nat} {v:VC} (h:Vs[j]? =ζ v):((Vs.take (j+1)).filter Rm).length=((Vs.take j).filter Rm).length+if Rm v then 1 else 0:=by
 rw[Jbc,h,List.filter_append,Ε];congr 1;simp only[Option.toList_some,List.filter_cons,List.filter_nil];split<;>rfl
theorem Od (Vs:List VC):lA Vs≤Vs.length:=List.length_filter_le _ _
theorem P9 {v:VC} {rn:Nat} (h:v.2.1.2.2.2.length=rn):((rn:Int)==0)=Rm v:=by
 unfold Rm;cases hR:v.2.1.2.2.2 with
 |nil=>rw[hR] at h;subst h;rfl
 |cons a r=>
  rw[hR,List.length_cons] at h;subst h;simp;omega
def Bs (Vs:List VC) (Es:List EC):Int:=(2*((xU (kR Vs):Nat):Int) - Vs.length+Es.length - ((vt Vs Es+lA Vs:Nat):Int)).tdiv 2
section
variable {A:Option Κ} {n c:Nat} {Vs:List VC} {B:Option Κ} {m k:Nat} {Es:List EC}
theorem zO (hf:bc Vs Es):vt Vs Es≤80:=by
 obtain⟨P,hP,e⟩:=JI hf;rw[e];have h1:=Ii hP.nd hP.sub
 have:=hf.l80
 omega
theorem I8 {w:ο} (h:aR w A n c Vs B m k Es):Vs.length=n∧Es.length=m:=⟨h.v.rlen aQ (by decide),h.e.rlen bF (by decide)⟩
theorem yn (hf:bc Vs Es):xU (kR Vs)≤24:=by
 have:=Vu Vs
 have:=hf.v24
 omega
theorem Ry {w:ο} (h:aR w A n c Vs B m k Es):(2*((xU (kR Vs):Nat):Int) - (n:Int)+(m:Int) - ((vt Vs Es+lA Vs:Nat):Int)).tdiv 2=Bs Vs Es:=by
 obtain⟨h1,h2⟩:=I8 h;rw[Bs,h1,h2]
end
theorem tg {w:ο} {B s n c:Nat} {A:Option Κ} {xs:List ψ} (h:aX w B s A n c xs) {p:Κ} {v:ψ} (hp:w.cell? p=ζ v) (hv:¬v∈xs) (u:ψ):aX (w.setCell p u) B s A n c xs:=
 ⟨h.len,h.none_,h.le,h.low,fun a ha j z hz=>by
  have h1:=h.cell a ha j z hz
  by_cases e:p=a.add j
  ·rw[←e,hp] at h1;obtain rfl:=Μ h1;exact absurd (ω hz) hv
  ·rw[World.cell?_setCell_other _ _ _ _ e];exact h1⟩
theorem size_setCell (w:ο) (p:Κ) (u:ψ):(w.setCell p u).heap.size=w.heap.size:=by simp
theorem zX {α:Type} {f:α→List ψ}:∀{L:List α} {v:ψ},v∈aj f L→∃x∈L,v∈f x:=by
 intro L
 induction L with
 |nil=>intro v h;cases h
 |cons a r ih=>
  intro v h;rcases Jan.1 (show v∈f a++aj f r from h) with h|h
  ·exact⟨a,List.mem_cons_self ..,h⟩
  ·obtain⟨x,hx,h2⟩:=ih h;exact⟨x,List.mem_cons_of_mem _ hx,h2⟩
theorem sx {Es:List EC} {A:Option Κ} {n c:Nat}:¬Ο A n c∈aj eC Es:=fun h=>by
 obtain⟨x,_,hx⟩:=zX h;simp[eC] at hx
theorem Gu {L:List D} {A:Option Κ} {n c:Nat}:¬Ο A n c∈aA L:=fun h=>by
 rw[mC] at h;obtain⟨x,_,hx⟩:=zX h;simp[dC] at hx
structure Wr (W:ο) (lo:Nat) (A:Option Κ) (n c:Nat) (Us:List VC) (B:Option Κ) (m k:Nat) (Es:List EC):Prop where
 v:W.ownsRow lo 59 5 (γ A n c) n (aj vC Us)
 e:aX W W.heap.size 4 B m k (aj eC Es)
 r:∀x∈Us,RgOk W x.2.1
section
variable {W W':ο} {lo:Nat} {A:Option Κ} {n c:Nat} {Us:List VC} {B:Option Κ} {m k:Nat} {Es:List EC}
theorem Cl.wr (h:Cl W lo A n c Us B m k Es):Wr W lo A n c Us B m k Es:=⟨h.v,h.dg.e,h.dg.r⟩
theorem Wr.dg (h:Wr W lo A n c Us B m k Es):aR W A n c Us B m k Es:=⟨aJ h.v,h.e,h.r⟩
theorem Wr.bl (h:Wr W lo A n c Us B m k Es) (hb:σ W.heap.size W W'):Wr W' lo A n c Us B m k Es:=⟨bO h.v hb,h.e.bl hb,fun x hx=>(h.r x hx).bl hb⟩
theorem Wr.al (h:Wr W lo A n c Us B m k Es) (o:Obj):Wr (W.alloc o) lo A n c Us B m k Es:=h.bl (ax W o)
theorem Wr.dr (h:Wr W lo A n c Us B m k Es):Wr W.drew lo A n c Us B m k Es:=h.bl ((Θ _ _).drew)
theorem vV {g i:Nat} {R:Rg} (h:RgOk W R) {A1:Option Κ} {n1 c1:Nat} (hp:W.cell? ⟨g,i,ε⟩=ζ (γ A1 n1 c1)) (u:ψ):RgOk (W.setCell ⟨g,i,ε⟩ u) R:=
 ⟨h.1,by rw[size_setCell];exact tg h.2 hp Gu u⟩
theorem Wr.far (h:Wr W lo A n c Us B m k Es) {g i:Nat} {A1:Option Κ} {n1 c1:Nat} (hp:W.cell? ⟨g,i,ε⟩=ζ (γ A1 n1 c1)) (hg:∀a,A=ζ a→g≠a.block) (u:ψ):Wr (W.setCell ⟨g,i,ε⟩ u) lo A n c Us B m k Es:=
 ⟨aM h.v (fun e=>by
  cases A with
  |none=>cases e
  |some a=>
   exact hg a rfl (Μ e)) u,by rw[size_setCell];exact tg h.e hp sx u,fun x hx=>vV (h.r x hx) hp u⟩
theorem Wr.put (h:Wr W lo A n c Us B m k Es) {j:Nat} {x:VC} (hx:Us[j]? =ζ x) (hj:j<n) (R:Rg) (hR:RgOk W R):
 ∃g,A=ζ ⟨g,0,ε⟩∧lo≤g∧(∃cs,Whole W g 59 cs)∧W.cell? ⟨g,j*5+2,ε⟩=ζ (γ x.2.1.1 x.2.1.2.1 x.2.1.2.2.1)∧W.frozen? ⟨g,j*5+2,ε⟩=ρ∧
  Wr (W.setCell ⟨g,j*5+2,ε⟩ (γ R.1 R.2.1 R.2.2.1)) lo A n c (Us.set j (x.1,R,x.2.2)) B m k Es:=by
 obtain⟨g,junk,e,fV,hw,hc,hf,ho⟩:=kh (i:=2) (y:=(x.1,R,x.2.2)) (u:=γ R.1 R.2.1 R.2.2.1) aQ h.v hx hj (by omega) rfl;have yH:W.cell? ⟨g,j*5+2,ε⟩=ζ (γ x.2.1.1 x.2.1.2.1 x.2.1.2.2.1):=hc.trans rfl
 refine⟨g,e,fV,⟨_,hw⟩,yH,hf,ho,by rw[size_setCell];exact tg h.e yH sx _,fun y hy=>vV ?_ yH _⟩
 rcases List.mem_or_eq_of_mem_set hy with hy|rfl
 ·exact h.r y hy
 ·exact hR
end
theorem Gc:(η.info? 32).map (fun i=>(i.zero,i.size,i.bytes))=ζ (ζ (φ #[J 0,J 0,J 0]),3,24):=by kernel_rfl
theorem ta {W:ο} {B B' n:Nat} {e:Υ} {size:Nat} {v:ψ} {xs:List ψ} (h:W.ownsRow B e size v n xs) (hB:B'≤B):W.ownsRow B' e size v n xs:=by
 refine⟨h.1,?_⟩
 rcases h.2 with hn|⟨g,cap,cur,h1,hb,rest⟩
 ·exact .inl hn
 ·exact .inr ⟨g,cap,cur,h1,Λ hB hb,rest⟩
theorem wF {P:Program} (W:ο) (t ty e:Υ) (i:TypeInfo) (z:ψ) (size bytes:Nat) (ht:P.underlying t=ζ (.slice e)) (hi:P.info? e=ζ i) (hz:i.zero=ζ z) (jE:i.size=size) (AZ:i.bytes=bytes) (Bh:z.cells.size=size) (Wb:0<size)
 (A:Option Κ) (m c:Nat) (news:List ψ) (hr:aX W W.heap.size size A m c news) (h1:∀u∈news,u.oneCell'=τ) (hm:m≤1000000) (hb:bytes≤100):
 ∃A' c' W',(JaY #[t,t] ty #[γ (ζ ⟨W.heap.size,0,ε⟩) 0 0,γ A m c]).run P (W.alloc (δ #[] e))=.ok (γ A' m c') W'∧W'.ownsRow W.heap.size e size (γ A' m c') m news∧σ W.heap.size W W':=by
 have fz:Ow W W.heap.size e size (γ (ζ ⟨W.heap.size,0,ε⟩) 0 0) 0 [] (W.alloc (δ #[] e)):=⟨World.ownsRow_made W #[] 0 (Δ _) (Nat.zero_le _) (by simp),aE (Θ _ W) _,Δ _,by simp⟩;have ach:(0+m)*bytes≤140737488355328:=Λ (Nat.mul_le_mul_left _ hb) (by omega);obtain⟨v',W',cj,ho,ar,hg,-⟩:=Ow.app2 (P:=P) t ty e i z size bytes W.heap.size ht hi hz jE AZ Bh Wb _ _ _ fz _ A m c news (hr.al (δ #[] e)) h1 (by unfold maxLen;omega) ach;rw[Nat.zero_add,List.nil_append] at ho;obtain⟨A',c',rfl,-⟩:=ho.rds;exact⟨A',c',W',cj,ho.own,ho.below⟩
structure nr (W:ο) (lo:Nat) (A:Option Κ) (n c:Nat) (Ws:List VC) (B:Option Κ) (m k:Nat) (Es:List EC):Prop where
 v:W.ownsRow lo 59 5 (γ A n c) n (aj vC Ws)
 e:W.ownsRow lo 67 4 (γ B m k) m (aj eC Es)
 r:∀x∈Ws,W.ownsRow lo 32 3 (γ x.2.1.1 x.2.1.2.1 x.2.1.2.2.1) x.2.1.2.1 (aA x.2.1.2.2.2)
section
variable {W W':ο} {lo:Nat} {A:Option Κ} {n c:Nat} {Ws:List VC} {B:Option Κ} {m k:Nat} {Es:List EC}
theorem nr.bl (h:nr W lo A n c Ws B m k Es) (hb:σ W.heap.size W W'):nr W' lo A n c Ws B m k Es:=⟨bO h.v hb,bO h.e hb,fun x hx=>bO (h.r x hx) hb⟩
theorem nr.al (h:nr W lo A n c Ws B m k Es) (o:Obj):nr (W.alloc o) lo A n c Ws B m k Es:=h.bl (ax W o)
theorem nr.wr (h:nr W lo A n c Ws B m k Es):Wr W lo A n c Ws B m k Es:=⟨h.v,aJ h.e,fun x hx=>⟨fO (h.r x hx),aJ (h.r x hx)⟩⟩
theorem nr.far (h:nr W lo A n c Ws B m k Es) {g i:Nat} {T:Υ} {cs:List ψ} (hw:Whole W g T cs) (h1:T≠59) (h2:T≠67) (h3:T≠32) (u:ψ):nr (W.setCell ⟨g,i,ε⟩ u) lo A n c Ws B m k Es:=
 ⟨aM h.v (ch h.v hw h1) u,aM h.e (ch h.e hw h2) u,fun x hx=>aM (h.r x hx) (ch (h.r x hx) hw h3) u⟩
theorem nr.far2 (h:nr W lo A n c Ws B m k Es) {g i:Nat} {cs:List ψ} (hw:Whole W g 59 cs) (hv:ζ g≠(Ο A n c).ownBlock) (u:ψ):nr (W.setCell ⟨g,i,ε⟩ u) lo A n c Ws B m k Es:=
 ⟨aM h.v hv u,aM h.e (ch h.e hw (by decide)) u,fun x hx=>aM (h.r x hx) (ch (h.r x hx) hw (by decide)) u⟩
theorem nr.lo_ (h:nr W lo A n c Ws B m k Es) {lo':Nat} (hl:lo'≤lo):nr W lo' A n c Ws B m k Es:=by
 have q:∀{e:Υ} {s:Nat} {v:ψ} {j:Nat} {xs:List ψ},W.ownsRow lo e s v j xs→W.ownsRow lo' e s v j xs:=fun h=>by
  refine⟨h.1,?_⟩
  rcases h.2 with hn|⟨g,cap,cur,h1,hb,rest⟩
  ·exact .inl hn
  ·exact .inr ⟨g,cap,cur,h1,Λ hl hb,rest⟩
 exact⟨q h.v,q h.e,fun x hx=>q (h.r x hx)⟩
theorem nr.push {P:Program} (h:nr W lo A n c Ws B m k Es) (x:VC) (hx:W.ownsRow lo 32 3 (γ x.2.1.1 x.2.1.2.1 x.2.1.2.2.1) x.2.1.2.1 (aA x.2.1.2.2.2)) (t ty:Υ) (i:TypeInfo) (z:ψ) (ht:P.underlying t=ζ (.slice 59)) (hi:P.info? 59=ζ i) (hz:i.zero=ζ z) (jE:i.size=5) (AZ:i.bytes=64) (Bh:z.cells.size=5)
 (hn:n≤1000000) (fV:lo≤W.heap.size) (g:Nat) (hr:aX W W.heap.size 5 (ζ ⟨g,0,ε⟩) 1 1 (vC x)):
 ∃A' c' W',(JaY #[t,t] ty #[γ A n c,γ (ζ ⟨g,0,ε⟩) 1 1]).run P W=.ok (γ A' (n+1) c') W'∧nr W' lo A' (n+1) c' (Ws++[x]) B m k Es∧σ lo W W'∧W.grownBy W' (Ο A n c).ownBlock:=by
 obtain⟨v',W2,cj,fM,hg,PC,hb⟩:=run_append_own_at (P:=P) W lo t ty 59 i z 5 64 ht hi hz jE AZ Bh (by decide) _ n _ h.v ⟨g,0,ε⟩ 1 1 _ hr.len (hr.cell _ rfl) (kA x) (by unfold maxLen;omega) (by omega) fV;have hk:∀k,(Ο A n c).ownBlock=ζ k→lo≤k:=fun k hk=>(h.v.lt k hk).1
 obtain⟨A',c',rfl,_⟩:=aX.of_own fM;have e:aj vC Ws++vC x=aj vC (Ws++[x]):=by rw[bV];simp[aj]
 rw[e] at fM
 have keep:∀{T:Υ} {s:Nat} {v:ψ} {j:Nat} {xs:List ψ},W.ownsRow lo T s v j xs→59≠T→W2.ownsRow lo T s v j xs:=fun {T s v j xs} ho hT=>ho.kept hg (by
  cases hv:v.ownBlock with
  |none=>exact .inl rfl
  |some g=>exact .inr fun q=>tO h.v ho hT q.symm hv)
 refine⟨A',c',W2,cj,⟨fM,keep h.e (by decide),fun y hy=>?_⟩,(Θ lo W).grown hg fV hk,hg⟩
 rcases Jan.1 hy with hy|hy
 ·exact keep (h.r y hy) (by decide)
 ·obtain rfl:=Jao.1 hy;exact keep hx (by decide)
end
theorem xl (A:Option Κ) (n c:Nat) (Vs:List VC) (B:Option Κ) (m k:Nat) (Es:List EC) (w:ο) (h:aR w A n c Vs B m k Es) (hn:n≤1000000) (hm:m≤1000000) (hr:∀x∈Vs,x.2.1.2.1≤1000000):
 Ζ η 23 #[φ #[γ A n c,γ B m k]] w fun e w'=>∃A' c' B' k' Ws,e=.returned (φ #[γ A' n c',γ B' m k'])∧nr w' w.heap.size A' n c' Ws B' m k' Es∧Ws.map vS=Vs.map vS∧σ w.heap.size w w':=by
 have HV:=qh h.v;have HE:=qh h.e;have JZ:=qh h.r;have FP:=qh (h.v.rlen aQ (by decide));have YI:=qh hr;obtain⟨iV,YS,LO,Nf,O5⟩:=aW hU;obtain⟨iE,H9,abY,aea,abP⟩:=aW jQ;obtain⟨iD,hid,ad8,abq,abu⟩:=aW Gc;clear h hr;go_enter Tryz.func23,Tryz.ntmps23;go_upto_region 1 with fail
 obtain⟨W0,b0,b1,bP,bK,cX,aN,aI,a8,xj,DA,kQ,EH,jK,mj⟩:=E6 w 25 [γ A n c,γ B m k] 25 [γ ε 0 0,γ ε 0 0];rw[bP,cX,bK];clear bP bK cX;obtain⟨Be,ke,W1,cj,Ka,UO⟩:=wF (P:=η) W0 23 23 67 iE _ 4 40 Tryz.underlying23 H9 abY aea abP rfl (by decide) B m k _ (HE.out.bl a8.out) (qD eC jX Es) hm (by decide);have c1:=(aN.out.al (δ #[] 67)).cell (i:=1) rfl
 go_wp2_with (first
  |(at_builtin
    refine jU (ζ 9) rfl (by rfl) (cA (by rfl) (by rfl) (by rfl) cj) ?_))
 have EO:=qh ((aN.out.bl UO).al (δ #[γ ε 0 0,γ Be m ke] 25));have yW:=qh ((aI.out.bl UO).al (δ #[γ ε 0 0,γ Be m ke] 25));have Di:=qh (Whole.new2 (w:=W1) (t:=25) (cs:=[γ ε 0 0,γ Be m ke]) rfl);have eA:=qh (aE (af a8.out UO) (δ #[γ ε 0 0,γ Be m ke] 25));have Lq:Hid (nr (W1.alloc (δ #[γ ε 0 0,γ Be m ke] 25)) w.heap.size ε 0 0 [] Be m ke Es):=qh ⟨World.ownsRow_nil _ _ _ _,bO (ta Ka a8.out.size) (ax _ _),fun x hx=>(by cases hx)⟩;have Hb3:Hid (w.heap.size≤W1.heap.size):=qh (by have:=a8.out.size;have:=UO.size;omega);have YG:Hid (b0≠W1.heap.size):=qh (by have:=(aN.out.bl UO).lt;omega);have YV:Hid (b1≠W1.heap.size):=qh (by have:=(aI.out.bl UO).lt;omega);clear cj Ka UO c1;obtain⟨W2,eN⟩:=ay (W1.alloc (δ #[γ ε 0 0,γ Be m ke] 25));obtain⟨b3,p9⟩:=ay W1.heap.size;rw[eN] at EO yW Di eA Lq ⊢;rw[p9] at Di Hb3 YG YV ⊢;clear eN p9 aN aI a8 xj;go_loopw [4] (fun si wr=>∃(j:Nat) (A2:Option Κ) (c2:Nat) (Ws:List VC),j≤n∧si=J j∧Hid (σ w.heap.size w wr)∧Hid (Whole wr b0 25 [γ A n c,γ B m k])∧Hid (Whole wr b1 25 [γ ε 0 0,γ ε 0 0])∧Hid (Whole wr b3 25 [γ A2 j c2,γ Be m ke])∧Hid (nr wr w.heap.size A2 j c2 Ws Be m ke Es)∧Hid (Ws.map vS=(Vs.take j).map vS)) (fun si _=>n - (intOf si).toNat)
 case atStart=>exact⟨0,ε,0,[],by omega,rfl,eA,EO,yW,Di,Lq,qh rfl⟩
 case round=>
  clear eA EO yW Di Lq;obtain⟨j,A2,c2,Ws,hj,rfl,HB,aN,aI,dp,HC,HM⟩:=hrel;obtain⟨wo,ec⟩:=ay wr;rw[ec] at HB aN aI dp HC ⊢;clear ec;have cb:=aN.out.cell (i:=0) rfl
  by_cases o4:j<n
  ·obtain⟨v,hx⟩:∃v,Vs[j]? =ζ v:=⟨_,List.getElem?_eq_getElem (by have:=FP.out;omega)⟩
   have hMn:(Vs.take (j+1)).map vS=(Vs.take j).map vS++[vS v]:=by
    rw[Jbc,hx];simp
   have Qo:=ω hx;have fp:=JZ.out v Qo;have sK:=YI.out v Qo;obtain⟨bb,off,rfl,bD,bM⟩:=HV.out.place aQ (by decide) (by omega);have cR:=HB.out;have q0:=bM j _ hx 0 _ rfl;have q1:=bM j _ hx 1 _ rfl;have q2:=bM j _ hx 2 _ rfl;have q3:=bM j _ hx 3 _ rfl;have q4:=bM j _ hx 4 _ rfl;simp only[Addr.add_lit,Nat.add_zero] at q0 q1 q2 q3 q4;have l0:=(cR.cell (p:=⟨bb,off+j*5,ε⟩) bD).trans q0;have l1:=(cR.cell (p:=⟨bb,off+j*5+1,ε⟩) bD).trans q1;have l2:=(cR.cell (p:=⟨bb,off+j*5+2,ε⟩) bD).trans q2;have l3:=(cR.cell (p:=⟨bb,off+j*5+3,ε⟩) bD).trans q3;have l4:=(cR.cell (p:=⟨bb,off+j*5+4,ε⟩) bD).trans q4;clear cR q0 q1 q2 q3 q4;obtain⟨⟨i1,i2⟩,⟨rA,rn,rc,rL⟩,lb,at_⟩:=v;replace sK:rn≤1000000:=sK;have HR:Hid (aX w w.heap.size 3 rA rn rc (aA rL)):=qh fp.2;have HMn:=qh hMn;clear hx hMn Qo fp bD bM;go_upto_region 6 with fail
   clear cb l0 l1 l2 l3 l4;have eA:=qh (aE HB.out (δ #[J i1,J i2,γ rA rn rc,μ lb,J at_] 59));have EO:=qh (aN.out.al (δ #[J i1,J i2,γ rA rn rc,μ lb,J at_] 59));have yW:=qh (aI.out.al (δ #[J i1,J i2,γ rA rn rc,μ lb,J at_] 59));have Di:=qh (dp.out.al (δ #[J i1,J i2,γ rA rn rc,μ lb,J at_] 59));have Lq:=qh (HC.out.al (δ #[J i1,J i2,γ rA rn rc,μ lb,J at_] 59));have fi:=qh (Whole.new2 (w:=wo) (t:=59) (cs:=[J i1,J i2,γ rA rn rc,μ lb,J at_]) rfl);have HLy:Hid (w.heap.size≤wo.heap.size):=qh HB.out.size;have Hnv:Hid (ζ wo.heap.size≠(Ο A2 j c2).ownBlock):=qh (fun e=>by have:=(HC.out.v.lt _ e.symm).2;omega);obtain⟨W3,lZ⟩:=ay (wo.alloc (δ #[J i1,J i2,γ rA rn rc,μ lb,J at_] 59));obtain⟨b5,Np⟩:=ay wo.heap.size;rw[lZ] at eA EO yW Di Lq fi ⊢;rw[Np] at fi HLy Hnv ⊢;clear lZ Np HB aN aI dp HC;obtain⟨A8,c8,W4,cj,hor,RG⟩:=wF (P:=η) W3 57 57 32 iD _ 3 24 Tryz.underlying57 hid ad8 abq abu rfl (by decide) rA rn rc _ (HR.out.up eA.out eA.out.size) (eH rL) sK (by decide);have d2:=(fi.out.al (δ #[] 32)).cell (i:=2) rfl;have e2:=(fi.out.bl RG).cell (i:=2) rfl;have f2:=(fi.out.bl RG).free 2
   go_upto_region 7 with (first
    |(at_builtin
      refine jU (ζ 26) rfl (by rfl) (cA (by rfl) (by rfl) (by rfl) cj) ?_))
   clear d2 e2 f2;have zP:=qh (fi.out.bl RG);have Kh:=qh (EO.out.bl RG);have oD:=qh (yW.out.bl RG);have Tc:=qh (Di.out.bl RG);have gW:=qh (af eA.out RG);have HC4:=qh (Lq.out.bl RG);have oW:=qh (ta hor eA.out.size);clear cj hor RG eA EO yW Di Lq fi;have JR:=qh (zP.out.set_ 2 (γ A8 rn c8));have QJ:=qh (Kh.out.set_far' (i:=2) (Kh.out.ne_ zP.out (by decide)) (γ A8 rn c8));have PW:=qh (oD.out.set_far' (i:=2) (oD.out.ne_ zP.out (by decide)) (γ A8 rn c8));have Mh:=qh (Tc.out.set_far' (i:=2) (Tc.out.ne_ zP.out (by decide)) (γ A8 rn c8));have gI:=qh (gW.out.setCell (p:=⟨b5,2,ε⟩) HLy.out (γ A8 rn c8));have qk:=qh (HC4.out.far2 (i:=2) zP.out Hnv.out (γ A8 rn c8));have ku:=qh (aM (i:=2) oW.out (ch oW.out zP.out (by decide)) (γ A8 rn c8));obtain⟨W5,xo⟩:=ay (W4.setCell ⟨b5,2,ε⟩ (γ A8 rn c8));rw[xo] at JR QJ PW Mh gI qk ku ⊢;clear xo zP Kh oD Tc gW HC4 oW;replace JR:Hid (Whole W5 b5 59 (vC ((i1,i2),(A8,rn,c8,rL),lb,at_))):=JR;have c3:=Mh.out.cell (i:=0) rfl;refine wp_region_lit ?_;refine ah (v:=?_) (ζ 28) rfl (by rfl) ?_ ?_;rotate_left
   ·go_simp;(try with_reducible rfl)
   simp only[ξ,aq,ak,ao];refine ah (v:=?_) (ζ 29) rfl (by rfl) ?_ ?_;rotate_left
   ·go_simp;(try with_reducible rfl)
   simp only[ξ,aq,ak,ao];refine bw (ζ 30) rfl (by rfl) 59 (.tmp 5) rfl (b5) rfl 59 (vC ((i1,i2),(A8,rn,c8,rL),lb,at_)) _ JR.out Tryz.underlying59 rfl (by kernel_rfl) ?_;simp only[ξ,aq,ak,ao];clear c3;refine dz (ζ 31) rfl (by rfl) 22 59 1 #[(0,.tmp 30)] (by rfl) Tryz.underlying22 (vC ((i1,i2),(A8,rn,c8,rL),lb,at_)).toArray (by kernel_rfl) ?_;simp only[ξ,aq,ak,ao];obtain⟨A9,c9,W6,cj,hC6,eP,Wn⟩:=(qk.out.al (δ (vC ((i1,i2),(A8,rn,c8,rL),lb,at_)).toArray 59)).push (P:=η) ((i1,i2),(A8,rn,c8,rL),lb,at_) (bO ku.out (ax _ _)) 22 22 iV _ Tryz.underlying22 YS LO Nf O5 rfl (by omega) (by have:=gI.out.size;simp;omega) W5.heap.size (aX.of_whole (Whole.new2 rfl) rfl);refine jU (ζ 32) rfl (by rfl) (cA (by rfl) (by rfl) (by rfl) cj) ?_;simp only[ξ,aq,ak,ao];have n0:=ch qk.out.v QJ.out (by decide);have n1:=ch qk.out.v PW.out (by decide);have n3:=ch qk.out.v Mh.out (by decide);have acj:=qh ((QJ.out.al (δ (vC ((i1,i2),(A8,rn,c8,rL),lb,at_)).toArray 59)).grown Wn n0);have zh:=qh ((PW.out.al (δ (vC ((i1,i2),(A8,rn,c8,rL),lb,at_)).toArray 59)).grown Wn n1);have Q7:=qh ((Mh.out.al (δ (vC ((i1,i2),(A8,rn,c8,rL),lb,at_)).toArray 59)).grown Wn n3);have kF:Hid (σ w.heap.size w W6):=qh ((aE gI.out (δ (vC ((i1,i2),(A8,rn,c8,rL),lb,at_)).toArray 59)).trans eP);have J4:=qh hC6;clear cj hC6 eP Wn n0 n1 n3 JR QJ PW Mh gI qk ku
   have c3:=Q7.out.cell (i:=0) rfl;have f3:=Q7.out.free 0;have ad6:=qh (acj.out.set_far' (i:=0) YG.out (γ A9 (j+1) c9));have aek:=qh (zh.out.set_far' (i:=0) YV.out (γ A9 (j+1) c9));have abN:=qh (Q7.out.set_ 0 (γ A9 (j+1) c9));have Sl:=qh (kF.out.setCell (p:=⟨b3,0,ε⟩) Hb3.out (γ A9 (j+1) c9));have HC7:=qh (J4.out.far (i:=0) Q7.out (by decide) (by decide) (by decide) (γ A9 (j+1) c9));have HM7:Hid ((Ws++[((i1,i2),(A8,rn,c8,rL),lb,at_)]).map vS=(Vs.take (j+1)).map vS):=qh (by rw[HMn.out,List.map_append,HM.out];rfl);clear HM HMn;go_wp2;go_roundw
   case rel=>exact⟨j+1,A9,c9,_,by omega,by go_num,Sl,ad6,aek,abN,HC7,HM7⟩
   case measure=>simp[intOf];omega
  ·obtain rfl:n=j:=by omega
   have hM:=HM.out;rw[List.take_of_length_le (by have:=FP.out;omega)] at hM;have lj:=(aI.out.set_ 0 (γ A2 n c2)).set_ 1 (γ Be m ke);have vP:=(HC.out.far (i:=0) aI.out (by decide) (by decide) (by decide) (γ A2 n c2)).far (i:=1) (aI.out.set_ 0 (γ A2 n c2)) (by decide) (by decide) (by decide) (γ Be m ke);have e8:=(HB.out.setCell (p:=⟨b1,0,ε⟩) jK.out (γ A2 n c2)).setCell (p:=⟨b1,1,ε⟩) jK.out (γ Be m ke);have e0:=dp.out.cell (i:=0) rfl;have e1:=dp.out.cell (i:=1) rfl;have f0:=aI.out.free 0;have f1:=aI.out.free 1;have k0:=aI.out.cell (i:=0) rfl;have k1:=aI.out.cell (i:=1) rfl;have X4:=qh (show ∃A' c' B' k' Us,(Ending.returned (φ #[γ A2 n c2,γ Be m ke]))=.returned (φ #[γ A' n c',γ B' m k'])∧nr _ w.heap.size A' n c' Us B' m k' Es∧Us.map vS=Vs.map vS∧σ w.heap.size w _ from⟨A2,c2,Be,ke,Ws,rfl,vP,hM,e8⟩);have Hx1:=qh lj;clear lj hM vP e8 HC HM HB aN aI dp;go_wp2;exact bS rfl b1 rfl Hx1.out Tryz.underlying25 rfl (by kernel_rfl) rfl X4.out
theorem D7:∀(Us Ws:List VC) (f:D→Option D),Us.map (fun v=>v.2.1.2.2.2)=Ws.map (fun v=>v.2.1.2.2.2)→Ol Us f=Ol Ws f
 |[],[],_,_=>rfl
 |[],_::_,_,h=>by cases h
 |_::_,[],_,h=>by cases h
 |u::r,v::s,f,h=>by
  rw[ι,ι] at h;injection h with h1 h2
  rw[Ol,Ol,h1];exact D7 r s _ h2
theorem Jx {Us Ws:List VC} (h:Us.map vS=Ws.map vS):Dl Us=Dl Ws:=by
 have h1:=congrArg (List.map (fun s:(Int × Int) × List D × ByteArray × Int=>s.2.1)) h;rw[JaW,JaW] at h1;exact D7 Us Ws _ h1
theorem MX {Us Ws:List VC} (h:Us.map vS=Ws.map vS):o8 Us=o8 Ws:=by
 funext y
 rw[o8,o8,Ce,Ce,Jx h]
theorem nr.pushE {P:Program} {W:ο} {lo:Nat} {A:Option Κ} {n c:Nat} {Ws:List VC} {B:Option Κ} {m k:Nat} {Es:List EC} (h:nr W lo A n c Ws B m k Es) (x:EC) (t ty:Υ) (i:TypeInfo) (z:ψ) (ht:P.underlying t=ζ (.slice 67)) (hi:P.info? 67=ζ i) (hz:i.zero=ζ z) (jE:i.size=4) (AZ:i.bytes=40) (Bh:z.cells.size=4)
 (hn:m≤1000000) (fV:lo≤W.heap.size) (g:Nat) (hr:aX W W.heap.size 4 (ζ ⟨g,0,ε⟩) 1 1 (eC x)):
 ∃B' k' W',(JaY #[t,t] ty #[γ B m k,γ (ζ ⟨g,0,ε⟩) 1 1]).run P W=.ok (γ B' (m+1) k') W'∧nr W' lo A n c Ws B' (m+1) k' (Es++[x])∧σ lo W W'∧W.grownBy W' (Ο B m k).ownBlock:=by
 obtain⟨v',W2,cj,fM,hg,PC,hb⟩:=run_append_own_at (P:=P) W lo t ty 67 i z 4 40 ht hi hz jE AZ Bh (by decide) _ m _ h.e ⟨g,0,ε⟩ 1 1 _ hr.len (hr.cell _ rfl) (jX x) (by unfold maxLen;omega) (by omega) fV;have hk:∀k',(Ο B m k).ownBlock=ζ k'→lo≤k':=fun k' hk=>(h.e.lt k' hk).1
 obtain⟨B',k',rfl,_⟩:=aX.of_own fM;have e:aj eC Es++eC x=aj eC (Es++[x]):=by rw[bV];simp[aj]
 rw[e] at fM
 have keep:∀{T:Υ} {s:Nat} {v:ψ} {j:Nat} {xs:List ψ},W.ownsRow lo T s v j xs→67≠T→W2.ownsRow lo T s v j xs:=fun {T s v j xs} ho hT=>ho.kept hg (by
  cases hv:v.ownBlock with
  |none=>exact .inl rfl
  |some g=>exact .inr fun q=>tO h.e ho hT q.symm hv)
 exact⟨B',k',W2,cj,⟨keep h.v (by decide),fM,fun y hy=>keep (h.r y hy) (by decide)⟩,(Θ lo W).grown hg fV hk,hg⟩
def mI (p:I2) (x d:D) (v:VC):VC:=if v.1=p then(v.1,(v.2.1.1,v.2.1.2.1,v.2.1.2.2.1,aS (np v.2.1.2.2.2 x d)),v.2.2) else v
theorem CD (Ws:List VC):lA Ws=((Ws.map vS).filter fun s=>decide (s.2.1=[])).length:=by
 rw[List.filter_map,Ρ];rfl
theorem Pc {Us Ms:List VC} (h:Us.map vS=Ms.map vS) (i:Nat) (y:I2):Vi Us i y→Vi Ms i y:=by
 rintro⟨u,hu,x,hx,e⟩;have hi:=congrArg (fun L:List ((Int × Int) × List D × ByteArray × Int)=>L[i]?) h;simp only[List.getElem?_map] at hi;rw[hu] at hi;cases hv:Ms[i]? with
 |none=>rw[hv] at hi;cases hi
 |some v=>
  rw[hv] at hi;have e1:vS u=vS v:=Μ hi;have e2:u.2.1.2.2.2=v.2.1.2.2.2:=congrArg (fun s:(Int × Int) × List D × ByteArray × Int=>s.2.1) e1;exact⟨v,hv,x,e2▸hx,e⟩
def mN (p q:I2) (x y:D) (v:VC):VC:=mI q y (8,1048576,1) (mI p x (8,1048576,0) v)
section
variable {Vs Us:List VC} {Es:List EC}
theorem Nu (h:Us.map vS=Vs.map vS):Bs Us Es=Bs Vs Es:=by
 have hl:Us.length=Vs.length:=by simpa using congrArg List.length h
 have h1:vt Us Es=vt Vs Es:=by unfold vt;rw[MX h]
 have h2:lA Us=lA Vs:=by rw[CD,h,←CD]
 have h3:kR Us=kR Vs:=Jr hl (fun i y=>⟨Pc h i y,Pc h.symm i y⟩);unfold Bs;rw[h1,h2,h3,hl]
end
structure fA (S:SS):Prop where
 fit:e7 S
 v24:S.1.length≤24
 e40:S.2.1.length≤40
 g400:S.2.2.length≤400
 vm:∀v∈S.1,bQ v.1.1 v.1.2=τ∧dX v.2.2.1=τ∧lF v.2.2.2=τ
 em:∀e∈S.2.1,bQ e.1.1 e.1.2=τ∧dX e.2.1=τ∧lF e.2.2=τ
 gr:ft S.2.2
theorem dP:fA cp:=⟨⟨List.Pairwise.nil,List.Pairwise.nil,List.nodup_nil,fun v h=>(by cases h),fun v h=>(by cases h),fun v h=>(by cases h)⟩,by decide,by decide,by decide,fun v h=>(by cases h),fun v h=>(by cases h),trivial⟩
theorem Jk {L:List Nm} (h:L.Pairwise (fun a b=>dF a b<0)) (hm:∀x∈L,bQ x.1 x.2=τ):pP ε L=τ:=(lg L ε).2 ⟨hm,fun y h=>(by cases h),h⟩
theorem uA (Vs:List VC):aH Vs=(Vs.map vS).flatMap (fun v=>v.2.1):=(Rp Vs).symm
theorem fA.formed {S:SS} (h:fA S) {Vs:List VC} (e:Vs.map vS=S.1):bc Vs S.2.1:=by
 have hk:Vs.map (·.1)=S.1.map (·.1):=by rw[←e,um]
 have hr:aH Vs=S.1.flatMap (fun v=>v.2.1):=by rw[uA,e]
 have mZ:Vs.length=S.1.length:=by rw[←e,Ρ]
 have hm:∀v∈Vs,vS v∈S.1:=fun v hv=>e▸Α.2 ⟨v,hv,rfl⟩
 refine⟨by rw[mZ];exact h.v24,h.e40,?_,?_,?_,?_,?_,?_,?_,?_⟩
 ·rw[hk];refine Jk (Jbg.2 h.fit.vup) (fun x hx=>?_);obtain⟨v,hv,rfl⟩:=Α.1 hx;exact(h.vm v hv).1
 ·refine Jk (Jbg.2 h.fit.eup) (fun x hx=>?_);obtain⟨v,hv,rfl⟩:=Α.1 hx;exact(h.em v hv).1
 ·exact Φ.2 (fun v hv=>decide_eq_true (h.fit.turned _ (hm v hv)).symm)
 ·rw[hr]
  refine(List.perm_ext_iff_of_nodup h.fit.once (ux _ [] List.nodup_nil)).2 (fun d=>?_)
  rw[qE];constructor
  ·intro hd;obtain⟨v,hv,hd⟩:=Jat.1 hd;obtain⟨h1,h2⟩:=h.fit.known v hv d hd;obtain⟨e,he,e1⟩:=eB.1 h1;refine .inr ⟨e,he,?_⟩;have e1:e.1=(d.1,d.2.1):=e1;obtain⟨a,b,c⟩:=d;rw[e1];rcases h2 with h2|h2
   ·exact .inl (congrArg (fun z=>(a,b,z)) h2)
   ·exact .inr (congrArg (fun z=>(a,b,z)) h2)
  ·rintro (hd|⟨e,he,hd⟩)
   ·cases hd
   ·obtain⟨h1,h2⟩:=h.fit.ends e he;rcases hd with rfl|rfl
    ·obtain⟨v,hv,hd⟩:=dq.1 h1;exact Jat.2 ⟨v,hv,hd⟩
    ·obtain⟨v,hv,hd⟩:=dq.1 h2;exact Jat.2 ⟨v,hv,hd⟩
 ·exact Φ.2 (fun v hv=>(h.vm _ (hm v hv)).2.1)
 ·exact Φ.2 (fun v hv=>(h.em _ hv).2.1)
 ·exact Φ.2 (fun v hv=>(h.vm _ (hm v hv)).2.2)
 ·exact Φ.2 (fun v hv=>(h.em _ hv).2.2)
theorem bc.ok {Vs:List VC} {Es:List EC} (h:bc Vs Es) {G:List Gn} (hg:G.length≤400) (hr:ft G):fA (Vs.map vS,Es,G):=by
 have hv:=(lg _ _).1 h.rv;have he:=(lg _ _).1 h.re;have hm:∀v∈Vs.map vS,∃u∈Vs,vS u=v:=fun v hv=>Α.1 hv
 refine⟨⟨?_,?_,?_,fun v hv=>?_,fun v hv d hd=>?_,fun e hE=>?_⟩,by rw[Ρ];exact h.v24,h.e40,hg,fun v hV=>?_,fun e hE=>?_,hr⟩
 ·exact Jbg.1 (um Vs▸hv.2.2)
 ·exact Jbg.1 he.2.2
 ·exact uA Vs▸h.once
 ·obtain⟨u,hu,rfl⟩:=hm v hv;exact(of_decide_eq_true (Φ.1 h.tu u hu)).symm
 ·obtain⟨u,hu,rfl⟩:=hm v hv;obtain⟨e,hE,e1,e2⟩:=(h.mem d).1 (Jat.2 ⟨u,hu,hd⟩);exact⟨eB.2 ⟨e,hE,e1⟩,e2⟩
 ·have k:∀s:Int,s=0∨s=1→cM (Vs.map vS) (aU e.1 s)=τ:=fun s hs=>by
   obtain⟨v,hv,hd⟩:=Jat.1 ((h.mem (aU e.1 s)).2 ⟨e,hE,rfl,hs⟩);exact dq.2 ⟨vS v,Α.2 ⟨v,hv,rfl⟩,hd⟩
  exact⟨k 0 (.inl rfl),k 1 (.inr rfl)⟩
 ·obtain⟨u,hu,rfl⟩:=hm v hV;exact⟨hv.1 u.1 (Α.2 ⟨u,hu,rfl⟩),Φ.1 h.lv u hu,Φ.1 h.av u hu⟩
 ·exact⟨he.1 e.1 (Α.2 ⟨e,hE,rfl⟩),Φ.1 h.le e hE,Φ.1 h.ae e hE⟩
theorem tN {a b:Int} (h:bQ a b=τ):1≤a∧a≤8∧1≤b∧b≤1048576:=of_decide_eq_true h
theorem An {t:ByteArray} (h:dX t=τ):t.size≤16:=by
 unfold dX at h;rw[Jar] at h;exact of_decide_eq_true h.1
theorem yu {n:Int} (h1:0≤n) (h2:n≤1048576):(Lit.int .i64 n).wf=τ:=by
 have e1:Jaw.min= -9223372036854775808:=by decide
 have e2:Jaw.max=9223372036854775807:=by decide
 simp only[Lit.wf,e1,e2,Jar,decide_eq_true_eq];omega
theorem ER {x:Nm} {s:Int} (h:bQ x.1 x.2=τ) (hs:s=0∨s=1):TB (x.1,x.2,s):=by
 obtain⟨h1,h2,h3,h4⟩:=tN h;exact⟨yu (show 0≤x.1 by omega) (show x.1≤_ by omega),yu (show 0≤x.2 by omega) (show x.2≤_ by omega),yu (show 0≤s by omega) (show s≤_ by omega)⟩
theorem fA.good {S:SS} (h:fA S) {Vs:List VC} (e:Vs.map vS=S.1):tJ Vs S.2.1:=by
 have hm:∀v∈Vs,vS v∈S.1:=fun v hv=>e▸Α.2 ⟨v,hv,rfl⟩
 refine⟨fun x hx d hd=>?_,fun e he=>⟨ER (h.em e he).1 (.inl rfl),ER (h.em e he).1 (.inr rfl)⟩,fun x hx=>?_,fun x hx=>?_⟩
 ·obtain⟨h1,h2⟩:=h.fit.known _ (hm x hx) d hd;obtain⟨e,he,e1⟩:=eB.1 h1
  have:=ER (h.em e he).1 h2
  rw[e1] at this;exact this
 ·have:=An (h.vm _ (hm x hx)).2.1
  have h2:x.2.2.1.size≤16:=this;exact Λ h2 (by decide)
 ·exact Λ (An (h.em _ hx).2.1) (by decide)
def upV (v:VS):VC:=(v.1,(ε,v.2.1.length,v.2.1.length,v.2.1),v.2.2)
theorem MW (V:List VS):(V.map upV).map vS=V:=by
 rw[JaW];exact(List.map_congr_left (fun v _=>rfl)).trans (List.map_id V)
def my (V:List VS) (E:List EC):Bool:=Bs (V.map upV) E==0
theorem MK (Vs:List VC) (E:List EC):my (Vs.map vS) E=(Bs Vs E==0):=by
 unfold my;rw[Nu (MW _)]
theorem fA.short {S:SS} (h:fA S):∀v∈S.1,v.2.1.length≤80:=fun v hv=>by
 have h1:=(h.formed (MW S.1)).l80;rw[uA,MW] at h1
 have h2:v.2.1.length≤(S.1.flatMap (fun v=>v.2.1)).length:=by
  obtain⟨a,b,e⟩:=List.append_of_mem hv;rw[e,List.flatMap_append,List.flatMap_cons];simp only[Ε];omega
 exact Λ h2 h1
theorem CV (s n c:Int) (w:ο) (h:bQ s n=τ):
 Ζ η 109 #[φ #[J s,J n,J c]] w fun e w'=>e=.returned (Β (decide (c=0)||decide (c=1)))∧σ w.heap.size w w':=by
 have hm:=jB s n;rw[h] at hm;have H:=qh hm;clear hm h
 by_cases c0:c=0
 ·subst c0;go_enter Tryz.func109,Tryz.ntmps109;go_wp2_with (first|(go_at_call 64;refine(H.out _).mono ?_;rintro e w' ⟨rfl,hb⟩;obtain⟨hc,hf⟩:=eK hb))
  go_ret;exact⟨rfl,aT hb⟩
 ·have h0:(c==0)=ρ:=by simpa using c0
  by_cases c1:c=1
  ·subst c1;go_enter Tryz.func109,Tryz.ntmps109;go_wp2_with (first|(go_at_call 64;refine(H.out _).mono ?_;rintro e w' ⟨rfl,hb⟩;obtain⟨hc,hf⟩:=eK hb))
   go_ret;exact⟨rfl,aT hb⟩
  ·have h1:(c==1)=ρ:=by simpa using c1
   have hr:(decide (c=0)||decide (c=1))=ρ:=by simp[c0,c1]
   rw[hr];clear hr;go_enter Tryz.func109,Tryz.ntmps109;go_wp2_with (first|(go_at_call 64;refine(H.out _).mono ?_;rintro e w' ⟨rfl,hb⟩;obtain⟨hc,hf⟩:=eK hb))
   go_ret;exact⟨rfl,aT hb⟩
theorem Dj (s n c:Int) (w:ο) (h:bQ s n=ρ):
 Ζ η 109 #[φ #[J s,J n,J c]] w fun e w'=>e=.returned (Β ρ)∧σ w.heap.size w w':=by
 have hm:=jB s n;rw[h] at hm;have H:=qh hm;clear hm h;go_enter Tryz.func109,Tryz.ntmps109;go_wp2_with (first|(go_at_call 64;refine(H.out _).mono ?_;rintro e w' ⟨rfl,hb⟩;obtain⟨hc,hf⟩:=eK hb))
 go_ret;exact⟨rfl,aT hb⟩
theorem Cq (s n c:Int):Pure 109 #[φ #[J s,J n,J c]] (Β (KT s n c)):=fun w=>by
 unfold KT;cases h:bQ s n
 ·exact Dj s n c w h
 ·exact CV s n c w h
theorem BN (s n c:Int) (w:ο) (h:bQ s n=τ):
 Ζ η 97 #[φ #[J s,J n,J c]] w fun e w'=>e=.returned (Β (decide (c=0)||decide (c=1)))∧σ w.heap.size w w':=by
 have hm:=bH s n;rw[h] at hm;have H:=qh hm;clear hm h
 by_cases c0:c=0
 ·subst c0;go_enter Tryz.func97,Tryz.ntmps97;go_wp2_with (first|(go_at_call 28;refine(H.out _).mono ?_;rintro e w' ⟨rfl,hb⟩;obtain⟨hc,hf⟩:=eK hb))
  go_ret;exact⟨rfl,aT hb⟩
 ·have h0:(c==0)=ρ:=by simpa using c0
  by_cases c1:c=1
  ·subst c1;go_enter Tryz.func97,Tryz.ntmps97;go_wp2_with (first|(go_at_call 28;refine(H.out _).mono ?_;rintro e w' ⟨rfl,hb⟩;obtain⟨hc,hf⟩:=eK hb))
   go_ret;exact⟨rfl,aT hb⟩
  ·have h1:(c==1)=ρ:=by simpa using c1
   have hr:(decide (c=0)||decide (c=1))=ρ:=by simp[c0,c1]
   rw[hr];clear hr;go_enter Tryz.func97,Tryz.ntmps97;go_wp2_with (first|(go_at_call 28;refine(H.out _).mono ?_;rintro e w' ⟨rfl,hb⟩;obtain⟨hc,hf⟩:=eK hb))
   go_ret;exact⟨rfl,aT hb⟩
theorem BV (s n c:Int) (w:ο) (h:bQ s n=ρ):
 Ζ η 97 #[φ #[J s,J n,J c]] w fun e w'=>e=.returned (Β ρ)∧σ w.heap.size w w':=by
 have hm:=bH s n;rw[h] at hm;have H:=qh hm;clear hm h;go_enter Tryz.func97,Tryz.ntmps97;go_wp2_with (first|(go_at_call 28;refine(H.out _).mono ?_;rintro e w' ⟨rfl,hb⟩;obtain⟨hc,hf⟩:=eK hb))
 go_ret;exact⟨rfl,aT hb⟩
theorem AO (s n c:Int):Pure 97 #[φ #[J s,J n,J c]] (Β (KT s n c)):=fun w=>by
 unfold KT;cases h:bQ s n
 ·exact BV s n c w h
 ·exact BN s n c w h
structure cZ where
 (k s n s1 n1 s2 n2 a0 a1 a2 a3 a4 b0 b1 b2 b3 b4:Int)
 e:Bool
 t:ByteArray
 m:Int
deriving DecidableEq
def aa (o:cZ):List ψ:=[J o.k,J o.s,J o.n,J o.s1,J o.n1,J o.s2,J o.n2,J o.a0,J o.a1,J o.a2,J o.a3,J o.a4,J o.b0,J o.b1,J o.b2,J o.b3,J o.b4,Β o.e,μ o.t,J o.m]
def pJ (n:Int):Bool:=decide (-1099511627776≤n∧n≤1099511627776)
def oA (a0 a1 a2 a3 a4:Int):Bool:=bQ a0 a1 && (decide (a2=0∧a3=0∧a4=0)||KT a2 a3 a4)
theorem BR (n:Int):Pure 89 #[J n] (Β (pJ n)):=fun w=>by
 unfold pJ
 by_cases h1:-1099511627776≤n
 ·by_cases h2:n≤1099511627776
  ·rw[decide_eq_true ⟨h1,h2⟩];go_enter Tryz.func89,Tryz.ntmps89;go_wp2;go_ret;exact⟨rfl,Θ _ _⟩
  ·rw[decide_eq_false (fun h=>h2 h.2)];go_enter Tryz.func89,Tryz.ntmps89;go_wp2;go_ret;exact⟨rfl,Θ _ _⟩
 ·rw[decide_eq_false (fun h=>h1 h.1)];go_enter Tryz.func89,Tryz.ntmps89;go_wp2;go_ret;exact⟨rfl,Θ _ _⟩
theorem tD (a b c:Int) (W:ο):(binOp .eql 32 (φ #[J a,J b,J c]) (φ #[J 0,J 0,J 0])).run η W=.ok (Β (decide (a=0∧b=0∧c=0))) W:=by
 by_cases h1:a=0<;>by_cases h2:b=0<;>by_cases h3:c=0<;>simp[go_sem,h1,h2,h3]
theorem ry (a0 a1 a2 a3 a4:Int):Pure 88 #[φ #[J a0,J a1,J a2,J a3,J a4]] (Β (oA a0 a1 a2 a3 a4)):=fun w=>by
 unfold oA;have hm:=jB a0 a1;have hd:=Cq a2 a3 a4;have hq:=tD a2 a3 a4;cases h:bQ a0 a1
 ·rw[h] at hm;have H:=qh hm;clear hm hd hq h;go_enter Tryz.func88,Tryz.ntmps88;go_wp2_with (first|(go_at_call 64;refine(H.out _).mono ?_;rintro e w' ⟨rfl,hb⟩;obtain⟨hc,hf⟩:=eK hb))
  go_ret;exact⟨rfl,aT hb⟩
 ·rw[h] at hm;have H:=qh hm
  by_cases hz:a2=0∧a3=0∧a4=0
  ·rw[decide_eq_true hz] at hq ⊢;clear hm hd h hz;go_enter Tryz.func88,Tryz.ntmps88;go_wp2_with (first|(go_at_call 64;refine(H.out _).mono ?_;rintro e w' ⟨rfl,hb⟩;obtain⟨hc,hf⟩:=eK hb))
   go_ret;exact⟨rfl,aT hb⟩
  ·rw[decide_eq_false hz] at hq ⊢;have HD:=qh hd;clear hm hd h hz;go_enter Tryz.func88,Tryz.ntmps88
   go_wp2_with (first
    |(go_at_call 64;refine(H.out _).mono ?_;rintro e w' ⟨rfl,hb⟩;obtain⟨hc,hf⟩:=eK hb)
    |(go_at_call 109;refine(HD.out _).mono ?_;rintro e cT ⟨rfl,ar⟩))
   go_ret;exact⟨by simp,(aT hb).trans (ar.mono (aT hb).size)⟩
def eW (o:cZ):Bool:=
 if o.k=1∨o.k=2∨o.k=4∨o.k=7 then τ
 else if o.k=3 then oA o.a0 o.a1 o.a2 o.a3 o.a4 && oA o.b0 o.b1 o.b2 o.b3 o.b4
 else if o.k=5 then bQ o.s1 o.n1 && bQ o.s2 o.n2 && decide (0≤o.m∧o.m≤3)
 else if o.k=6 then bQ o.s2 o.n2
 else if o.k=8 then pJ o.m
 else ρ
theorem PI (k s n s1 n1 s2 n2 a0 a1 a2 a3 a4 b0 b1 b2 b3 b4:Int) (e:Bool) (t:ByteArray) (m:Int):Pure 65 #[φ #[J k,J s,J n,J s1,J n1,J s2,J n2,J a0,J a1,J a2,J a3,J a4,J b0,J b1,J b2,J b3,J b4,Β e,μ t,J m]] (Β (eW ⟨k,s,n,s1,n1,s2,n2,a0,a1,a2,a3,a4,b0,b1,b2,b3,b4,e,t,m⟩)):=fun w=>by
 unfold eW;simp only
 by_cases k1:k=1
 ·subst k1;rw[if_pos (by decide)];go_enter Tryz.func65,Tryz.ntmps65;go_wp2;go_ret;exact⟨rfl,ax _ _⟩
 have q1:(k==1)=ρ:=by simpa using k1
 by_cases k2:k=2
 ·subst k2;rw[if_pos (by decide)];go_enter Tryz.func65,Tryz.ntmps65;go_wp2;go_ret;exact⟨rfl,ax _ _⟩
 have q2:(k==2)=ρ:=by simpa using k2
 by_cases k4:k=4
 ·subst k4;rw[if_pos (by decide)];go_enter Tryz.func65,Tryz.ntmps65;go_wp2;go_ret;exact⟨rfl,ax _ _⟩
 have q4:(k==4)=ρ:=by simpa using k4
 by_cases k7:k=7
 ·subst k7;rw[if_pos (by decide)];go_enter Tryz.func65,Tryz.ntmps65;go_wp2;go_ret;exact⟨rfl,ax _ _⟩
 have q7:(k==7)=ρ:=by simpa using k7
 rw[if_neg (by omega)]
 by_cases k3:k=3
 ·subst k3;rw[if_pos rfl];have ha:=ry a0 a1 a2 a3 a4;have IT:=ry b0 b1 b2 b3 b4;obtain⟨A,gA⟩:=ay (oA a0 a1 a2 a3 a4);obtain⟨B,gB⟩:=ay (oA b0 b1 b2 b3 b4);rw[gA] at ha ⊢;rw[gB] at IT ⊢;have HA:=qh ha;have HB:=qh IT;clear ha IT gA gB k1 k2 k4 k7 q1 q2 q4 q7;have tok:True:=trivial;cases A
  ·go_enter Tryz.func65,Tryz.ntmps65
   go_wp2_with (first
    |(go_at_call 88;refine(HA.out _).mono ?_;rintro e w1 ⟨rfl,e8⟩;obtain⟨vP,ph⟩:=eK e8))
   go_ret;exact⟨rfl,aT e8⟩
  ·go_enter Tryz.func65,Tryz.ntmps65
   go_wp2_with (first
    |(go_at_call 88;have _t:=tok;refine(HA.out _).mono ?_;rintro e w1 ⟨rfl,e8⟩;obtain⟨vP,ph⟩:=eK e8;clear tok)
    |(go_at_call 88;refine(HB.out _).mono ?_;rintro e w2 ⟨rfl,ar⟩;obtain⟨yH,Ju⟩:=eK ar))
   go_ret;exact⟨by first|(simp;done)|(simp;omega),(aT e8).trans (ar.mono (aT e8).size)⟩
 rw[if_neg k3];have q3:(k==3)=ρ:=by simpa using k3
 by_cases k5:k=5
 ·subst k5;rw[if_pos rfl];have ha:=jB s1 n1;have IT:=jB s2 n2;obtain⟨A,gA⟩:=ay (bQ s1 n1);obtain⟨B,gB⟩:=ay (bQ s2 n2);rw[gA] at ha ⊢;rw[gB] at IT ⊢;have HA:=qh ha;have HB:=qh IT;clear ha IT gA gB k1 k2 k4 k7 q1 q2 q4 q7 k3 q3;have tok:True:=trivial;cases A
  ·go_enter Tryz.func65,Tryz.ntmps65
   go_wp2_with (first
    |(go_at_call 64;refine(HA.out _).mono ?_;rintro e w1 ⟨rfl,e8⟩;obtain⟨vP,ph⟩:=eK e8))
   go_ret;exact⟨rfl,aT e8⟩
  ·cases B
   ·go_enter Tryz.func65,Tryz.ntmps65
    go_wp2_with (first
     |(go_at_call 64;have _t:=tok;refine(HA.out _).mono ?_;rintro e w1 ⟨rfl,e8⟩;obtain⟨vP,ph⟩:=eK e8;have Dy:w.heap.size<w1.heap.size:=JaK (by simp) e8.size;clear tok)
     |(go_at_call 64;refine(HB.out _).mono ?_;rintro e w2 ⟨rfl,ar⟩;obtain⟨yH,Ju⟩:=eK ar))
    go_ret;exact⟨by first|(simp;done)|(simp;omega),(aT e8).trans (ar.mono (aT e8).size)⟩
   ·by_cases m0:0≤m
    ·by_cases m3:m≤3
     ·have hd:decide (0≤m∧m≤3)=τ:=decide_eq_true ⟨m0,m3⟩;rw[hd];clear hd;go_enter Tryz.func65,Tryz.ntmps65
      go_wp2_with (first
       |(go_at_call 64;have _t:=tok;refine(HA.out _).mono ?_;rintro e w1 ⟨rfl,e8⟩;obtain⟨vP,ph⟩:=eK e8;have Dy:w.heap.size<w1.heap.size:=JaK (by simp) e8.size;clear tok)
       |(go_at_call 64;refine(HB.out _).mono ?_;rintro e w2 ⟨rfl,ar⟩;obtain⟨yH,Ju⟩:=eK ar))
      go_ret;exact⟨by first|(simp;done)|(simp;omega),(aT e8).trans (ar.mono (aT e8).size)⟩
     ·have hd:decide (0≤m∧m≤3)=ρ:=decide_eq_false (fun h=>m3 h.2);rw[hd];clear hd;go_enter Tryz.func65,Tryz.ntmps65
      go_wp2_with (first
       |(go_at_call 64;have _t:=tok;refine(HA.out _).mono ?_;rintro e w1 ⟨rfl,e8⟩;obtain⟨vP,ph⟩:=eK e8;have Dy:w.heap.size<w1.heap.size:=JaK (by simp) e8.size;clear tok)
       |(go_at_call 64;refine(HB.out _).mono ?_;rintro e w2 ⟨rfl,ar⟩;obtain⟨yH,Ju⟩:=eK ar))
      go_ret;exact⟨by first|(simp;done)|(simp;omega),(aT e8).trans (ar.mono (aT e8).size)⟩
    ·have hd:decide (0≤m∧m≤3)=ρ:=decide_eq_false (fun h=>m0 h.1);rw[hd];clear hd;go_enter Tryz.func65,Tryz.ntmps65
     go_wp2_with (first
      |(go_at_call 64;have _t:=tok;refine(HA.out _).mono ?_;rintro e w1 ⟨rfl,e8⟩;obtain⟨vP,ph⟩:=eK e8;have Dy:w.heap.size<w1.heap.size:=JaK (by simp) e8.size;clear tok)
      |(go_at_call 64;refine(HB.out _).mono ?_;rintro e w2 ⟨rfl,ar⟩;obtain⟨yH,Ju⟩:=eK ar))
     go_ret;exact⟨by first|(simp;done)|(simp;omega),(aT e8).trans (ar.mono (aT e8).size)⟩
 rw[if_neg k5];have q5:(k==5)=ρ:=by simpa using k5
 by_cases k6:k=6
 ·subst k6;rw[if_pos rfl];have H:=qh (jB s2 n2);obtain⟨A,gA⟩:=ay (bQ s2 n2);rw[gA] at H ⊢;clear gA k1 k2 k4 k7 q1 q2 q4 q7 k3 q3 k5 q5;go_enter Tryz.func65,Tryz.ntmps65
  go_wp2_with (first
   |(go_at_call 64;refine(H.out _).mono ?_;rintro e w1 ⟨rfl,e8⟩;obtain⟨vP,ph⟩:=eK e8))
  go_ret;exact⟨rfl,aT e8⟩
 rw[if_neg k6];have q6:(k==6)=ρ:=by simpa using k6
 by_cases k8:k=8
 ·subst k8;rw[if_pos rfl];have H:=qh (BR m);obtain⟨A,gA⟩:=ay (pJ m);rw[gA] at H ⊢;clear gA k1 k2 k4 k7 q1 q2 q4 q7 k3 q3 k5 q5 k6 q6;go_enter Tryz.func65,Tryz.ntmps65
  go_wp2_with (first
   |(go_at_call 89;refine(H.out _).mono ?_;rintro e w1 ⟨rfl,e8⟩;obtain⟨vP,ph⟩:=eK e8))
  go_ret;exact⟨rfl,aT e8⟩
 ·have q8:(k==8)=ρ:=by simpa using k8
  rw[if_neg k8];clear k1 k2 k4 k7 k3 k5 k6 k8;go_enter Tryz.func65,Tryz.ntmps65;go_wp2;go_ret;exact⟨rfl,ax _ _⟩
end Go.Proofs.YtpdpbfmiahjiiaaGreat
