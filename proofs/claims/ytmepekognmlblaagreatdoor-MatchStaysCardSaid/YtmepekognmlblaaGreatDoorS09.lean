import Derived.Test.YtmepekognmlblaaGreatDoorS07
set_option maxHeartbeats 4000000
set_option maxRecDepth 100000
set_option linter.unusedVariables false
open Go.Proofs.Tryz Go.ChangeShapes Go.WideShapes Go.ChangeAt Go.RowKit
open Go.Lib renaming hid→QA
open Go.RowKit.Below renaming refl→QE
open _root_.List renaming setIfInBounds_toArray→ZC,set_cons_succ→ZA,set_cons_zero→QZ
open _root_.Nat renaming zero_add→ZL
open Go.World renaming cell?_alloc_at→VV
open Go.Value renaming string→σ,int→ι,slice→ς,pointer→π,bool→τ,agg→ξ
open Go.IntKind renaming i64→γ
open Go.Obj renaming cells→θ
open Go.Ending renaming returned→ρ
namespace Go.Proofs.YtmepekognmlblaaGreatDoor
namespace Tree
open Mem
theorem pP{B:Nat}{a w:World}(h:Below B a w)(n:Nat):Below B a (w.drewN n):=⟨h.os,h.tape,h.output,h.size,h.block⟩
theorem Qa(w:World)(o:Obj):Below w.heap.size w (w.alloc o):=(QE _ _).alloc (Nat.le_refl _) _
theorem Qu6(l:List Int)(cb g n C:Nat)(k:Int)(x y:ByteArray)(A:Option Addr)(m c:Nat)(w:World)(hl:l.length=n)(hn:n≤1000000)(hcl:cb<w.heap.size)
 (hcb:w.cell? ⟨cb,0,none⟩=some (ς (some ⟨g,0,none⟩) n C)) (hg:g<w.heap.size) (hc:∀i u,l[i]?=some u→w.cell? ⟨g,i,none⟩=some (ι γ u)) :
 Calls prog 115 #[ξ #[ι γ k,σ x,σ y,ς A m c],π (some ⟨cb,0,none⟩)] w fun e W'=>e=ρ (τ (Qd l k x))∧Below w.heap.size w W':=by
 have HC:=QA (fun(W:World)(hb:Below w.heap.size w W)=>Qpp k g n C l W hl hn (fun i u hu=>(hb.cell (p:=⟨g,i,none⟩) hg).trans (hc i u hu)));have e:Qd l k x=l.any (fun u=>k==u):=rfl;rw[e];generalize l.any (fun u=>k==u)=bb at *;clear hl hc hg e;go_enter func115,ntmps115;go_wp2_with fail;refine(HC.out _ (Qa _ _)).mono ?_;rintro e w' ⟨rfl,rfl⟩;go_wp2;go_ret;exact⟨rfl,Qa _ _⟩
theorem Qpj:Vp 115:=fun args w=>by simp[go_sem]
theorem Qy(l:List Int)(g n:Nat)(w:World)(hl:l.length=n)(hn:n≤1000000)(hg:g<w.heap.size)(hc:∀i u,l[i]?=some u→w.cell? ⟨g,i,none⟩=some (ι γ u)) :
 Calls prog 85 #[ς (some ⟨g,0,none⟩) n n] w fun e w'=>Below w.heap.size w w'∧∃v,e=ρ v∧Zj w' v (Qd l):=by
 have HF:Hid (Zj (w.alloc (θ #[ς (some ⟨g,0,none⟩) n n] 32)) (.func (.func 115) #[] #[π (some ⟨w.heap.size,0,none⟩)]) (Qd l)):=by
  refine⟨_,_,rfl,Qpj,fun W hW k x y A m c=>Qu6 l w.heap.size g n n k x y A m c W hl hn ?_ ?_ ?_ ?_⟩
  ·have:=hW.size;simp at this;omega
  ·exact(hW.cell (p:=⟨w.heap.size,0,none⟩) ψ).trans (by rw[VV _ _ _ _ rfl];rfl)
  ·have:=hW.size;simp at this;omega
  ·intro i u hu;refine(hW.cell (p:=⟨g,i,none⟩) (by simp;omega)).trans ?_;rw[World.cell?_alloc_lt _ _ _ hg];exact hc i u hu
 clear hl hc hg;go_enter func85,ntmps85;go_wp2;go_ret;exact⟨Qa _ _,_,rfl,HF.out⟩
def fP(pt:Pt)(f:F)(w:World)(e:Ending)(w':World):Prop :=
 Below w.heap.size w w'∧((pt.take f=none∧∃v,e=ρ (.tuple #[v,τ false]))∨(∃g A n C,pt.take f=some g∧e=ρ (.tuple #[ς A n C,τ true])∧Fs w (Lo w.heap.size) (ς A n C) g))
def Zk(w:World)(v:Value)(pt:Pt):Prop :=
 ∃gf c,v=.func (.func gf) #[] #[π (some ⟨c,0,none⟩)]∧Vp gf∧∀W,Below w.heap.size w W→∀A n C f,Fs W (Lo W.heap.size) (ς A n C) f→Calls prog gf #[ς A n C,π (some ⟨c,0,none⟩)] W (fP pt f W)
theorem Zk.later{w w':World}{v:Value}{pt:Pt}(h:Zk w v pt)(hb:Below w.heap.size w w'):Zk w' v pt:=by
 obtain⟨gf,c,e,he,hc⟩:=h;exact⟨gf,c,e,he,fun W hW=>hc W (hb.trans (hW.mono hb.size))⟩
theorem Fs.tail{w:World}{S:Nat→Prop}{b off n C:Nat}{k:Int}{x y:ByteArray}{c r:F}(h:Fs w S (ς (some ⟨b,off,none⟩) n C) (.cons k x y c r)) :
 1≤n∧n≤C∧C≤9223372036854775807∧r.len=n-1∧∀A',(n-1=0∨A'=some ⟨b,off+4,none⟩)→Fs w S (ς A' (n-1) (C-1)) r:=by
 obtain⟨b',Ni,n',C',s,e,h1,h2,h3,_,_,_,_,_,_,hr⟩:=h;injection e with e1 e2 e3;injection e1 with e1;injection e1 with e4 e5;subst e4;subst e5;subst e2;subst e3;refine⟨ω,ω,h3,by simpa using h1,fun A' hA=>?_⟩;simp only[Nat.add_sub_cancel]at hA⊢;refine hr A' ?_;rcases hA with hA|hA
 ·exact .inl (F.MT ω)
 ·exact .inr hA
theorem Ju(b off n C:Nat)(hn:1≤n)(hC:n≤C):∃A' n' C',(∀W,(Instr.slice 22 (ς (some ⟨b,off,none⟩) n C) (some (ι γ 1)) none none).run prog W=.ok (ς A' n' C') W)∧n'=n-1∧C'=C-1∧(n-1=0∨A'=some ⟨b,off+4,none⟩):=by
 have h2:(1:Int)≤(n:Int):=ω
 refine⟨if C=1 then some ⟨b,off,none⟩else some ⟨b,off+4,none⟩,n-1,C-1,fun W=>?_,rfl,rfl,?_⟩
 ·rw[run_slice_l (P:=prog) W 22 _ n C χ γ 1 ω h2];have hs:(sizeOf (prog.elem 22)).run prog W=.ok 4 W:=χ
  rw[hs];simp only[Result.andThen_ok,sliced,Addr.add];by_cases hc:C=1 <;> simp[hc]
 ·by_cases hc:C=1
  ·left;omega
  ·right;rw[if_neg hc]
theorem Qyg{w W:World}{o:Obj}(h:(World.drew (w.alloc o)).heap.size≤W.heap.size):w.heap.size<W.heap.size:=by
 have e:(World.drew (w.alloc o)).heap.size=w.heap.size+1:=by show(w.alloc o).heap.size=_;simp
 omega
theorem Qsc(ps:List (Int→ByteArray→Bool))(cb g n0:Nat)(A:Option Addr)(n C:Nat)(f:F)(w:World)(hf:Fs w (Lo w.heap.size) (ς A n C) f)(hl:ps.length=n0)(hn:n0≤1000000)
 (hcb:w.cell? ⟨cb,0,none⟩=some (ς (some ⟨g,0,none⟩) n0 n0)) (hcl:cb<w.heap.size) (hg:g<w.heap.size) (hts:∀i p,ps[i]?=some p→∃v,w.cell? ⟨g,i,none⟩=some v∧Zj w v p) :
 Calls prog 118 #[ς A n C,π (some ⟨cb,0,none⟩)] w (fP (.one ps) f w):=by
 cases Rj:f with
 |nil =>
  obtain⟨A',C',e,_,_⟩:=hf.slice;injection e with e1 e2 e3;subst e1;subst e3;rw[Rj]at e2;simp only[F.len]at e2;subst e2;clear hf hts hcb hg Rj;go_enter func118,ntmps118;go_wp2
  go_ret2
  exact⟨Qa _ _,.inl ⟨rfl,_,rfl⟩⟩
 |cons k x y c r =>
  rw[Rj]at hf;obtain⟨b,off,s,rfl,hb,hi,hat⟩:=hf.at_ (i:=0) rfl;obtain⟨As,Cs,rfl,_,_⟩:=hat.kids.slice;have c0:=hat.c0;have c1:=hat.c1;have c2:=hat.c2;have c3:=hat.c3;simp only[Nat.zero_mul,Nat.add_zero]at c0 c1 c2 c3;obtain⟨qc,Ld,RS,hrl,hr⟩:=hf.tail;obtain⟨A',n',C',hsl,en,eC,hA'⟩:=Ju b off n C qc Ld;have hr2:=hr A' hA';rw[←en,←eC]at hr2;have hcw:∀W,Below w.heap.size w W→W.cell? ⟨cb,0,none⟩=some (ς (some ⟨g,0,none⟩) n0 n0):=fun W hW=>(hW.cell (p:=⟨cb,0,none⟩) hcl).trans hcb
  have HK:=QA (fun(W:World)(hW:Below w.heap.size w W)(dY:Nat)(hc2:dY<W.heap.size)(hk2:W.cell? ⟨dY,0,none⟩=some (ς (some ⟨b,off,none⟩) n C)) =>
   Qey ps g n0 n0 dY b off n C k x y As c.len Cs W (by have:=hW.size;omega) hl hn (fun i p hp=>by
    obtain⟨v,hv,ht⟩:=hts i p hp;exact⟨v,(hW.cell (p:=⟨g,i,none⟩) hg).trans hv,ht.later hW⟩) hc2 (by have:=hW.size;have:b<w.heap.size:=hb;omega) hk2 ω
    ((hW.cell (p:=⟨b,off,none⟩) hb).trans c0) ((hW.cell (p:=⟨b,off+1,none⟩) hb).trans c1) ((hW.cell (p:=⟨b,off+2,none⟩) hb).trans c2) ((hW.cell (p:=⟨b,off+3,none⟩) hb).trans c3))
  have HR:=QA hr2;have hpt:Pt.take (.one ps) (.cons k x y c r)=if ps.any (fun p=>p k x)then some r else none:=rfl
  have NR:=QA hpt;generalize ps.any (fun p=>p k x)=bb at *;have hb1:=Qa w (θ #[ς (some ⟨b,off,none⟩) n C] 22);have hcc:=hcw _ hb1;have hn0:((n:Int)==0)=false:=QM ω;have HCW:=QA hcw;have Z':=QA hb1;have UO:Hid (∀W,Below (w.alloc (θ #[ς (some ⟨b,off,none⟩) n C] 22)).heap.size (w.alloc (θ #[ς (some ⟨b,off,none⟩) n C] 22)) W→W.cell? ⟨w.heap.size,0,none⟩=some (ς (some ⟨b,off,none⟩) n C)):=fun W hW =>
   (hW.cell (p:=⟨w.heap.size,0,none⟩) ψ).trans (by rw[VV _ _ _ _ rfl];rfl)
  have HQ:=QA (fun(W:World)(hW:Below (w.alloc (θ #[ς (some ⟨b,off,none⟩) n C] 22)).heap.size (w.alloc (θ #[ς (some ⟨b,off,none⟩) n C] 22)) W) =>
   HK.out W (hb1.trans (hW.mono hb1.size)) w.heap.size (Qyg (o:=θ #[ς (some ⟨b,off,none⟩) n C] 22) hW.size) (UO.out W hW))
  clear hf hts hg Rj hat c0 c1 c2 c3 hr hr2 hpt hcw hb1 hb hi hrl en eC hA' HK hcb;go_enter func118,ntmps118;go_wp2;refine Qv [Cd.is (ς (some ⟨b,off,none⟩) n C),Cd.is (ς A' n' C'),Cd.is (ς (some ⟨g,0,none⟩) n0 n0),Cd.is (Value.func (.func 119) #[] #[π (some ⟨w.heap.size,0,none⟩)]),Cd.is (τ bb),Cd.is (ς A' n' C'),Cd.is (τ bb)] ?steps ?behind
  case steps =>
   intro xv W hW;refine⟨?s0,?s1,?s2,?s3,?s4,?s5,?s6,trivial⟩;all_goals intro hd K hK
   all_goals(try simp only[Act.put,ZC,ZA,QZ]at hK)
   case s0=>clear hd;have hcell:=UO.out W hW;exact c16
   case s1=>have hx0:xv 0=ς (some ⟨b,off,none⟩) n C:=hd 0;clear hd;rw[hx0]at hK⊢;exact c16
   case s2=>clear hd;have hcell:=HCW.out W (Z'.out.trans (hW.mono Z'.out.size));exact c16
   case s3=>clear hd;exact c16
   case s4=>have hx2:xv 2=ς (some ⟨g,0,none⟩) n0 n0:=hd 2;have hx3:xv 3=Value.func (.func 119) #[] #[π (some ⟨w.heap.size,0,none⟩)]:=hd 3;clear hd;rw[hx2]at hK⊢;rw[hx3]at hK⊢;go_simp;refine(HQ.out W hW).mono ?_;exact c128
   case s5=>have hx1:xv 1=ς A' n' C':=hd 1;clear hd;rw[hx1]at hK⊢;exact c16
   case s6=>have JJ:xv 4=τ bb:=hd 4;clear hd;rw[JJ]at hK⊢;exact c16
  case behind =>
   intro xv W hW hx;have h5:xv 5=ς A' n' C':=hx 5;have h6:xv 6=τ bb:=hx 6;rw[h5,h6];go_wp2
   go_ret2
   refine⟨Z'.out.trans (hW.mono Z'.out.size),?_⟩;cases bb with
   |true=>exact .inr ⟨r,A',n',C',NR.out,rfl,HR.out⟩
   |false=>exact .inl ⟨NR.out,_,rfl⟩
theorem Qlz:Vp 118:=fun args w=>by simp[go_sem]
theorem fA(ps:List (Int→ByteArray→Bool))(g n0:Nat)(w:World)(hl:ps.length=n0)(hn:n0≤1000000)(hg:g<w.heap.size)(hts:∀i p,ps[i]?=some p→∃v,w.cell? ⟨g,i,none⟩=some v∧Zj w v p) :
 Calls prog 88 #[ς (some ⟨g,0,none⟩) n0 n0] w fun e w'=>Below w.heap.size w w'∧∃v,e=ρ v∧Zk w' v (.one ps):=by
 have hb1:=Qa w (θ #[ς (some ⟨g,0,none⟩) n0 n0] 145);have HF:Hid (Zk (w.alloc (θ #[ς (some ⟨g,0,none⟩) n0 n0] 145)) (.func (.func 118) #[] #[π (some ⟨w.heap.size,0,none⟩)]) (.one ps)):=by
  refine⟨_,_,rfl,Qlz,fun W hW A n C f hf=>Qsc ps w.heap.size g n0 A n C f W hf hl hn ?_ ?_ ?_ ?_⟩
  ·exact(hW.cell (p:=⟨w.heap.size,0,none⟩) ψ).trans (by rw[VV _ _ _ _ rfl];rfl)
  ·have:=hW.size;simp at this;omega
  ·have:=hW.size;simp at this;omega
  ·intro i p hp;obtain⟨v,hv,ht⟩:=hts i p hp;have hb2:=hb1.trans (hW.mono hb1.size);exact⟨v,(hb2.cell (p:=⟨g,i,none⟩) hg).trans hv,ht.later hb2⟩
 have HB:=QA hb1;clear hl hts hg hb1;go_enter func88,ntmps88;go_wp2;go_ret;exact⟨HB.out,_,rfl,HF.out⟩
def bR(w wr:World)(p:Int→ByteArray→Bool)(f:F)(A:Option Addr)(n C:Nat)(g:F):Prop:=Fs w (Lo w.heap.size) (ς A n C) g∧OI p g=OI p f
def vF:Value→Nat
 | ς _ n _=>n
 |_=>0
theorem Qox(p:Int→ByteArray→Bool)(cb:Nat)(vt:Value)(A:Option Addr)(n C:Nat)(f:F)(w:World)(hf:Fs w (Lo w.heap.size) (ς A n C) f)(hcb:w.cell? ⟨cb,0,none⟩=some vt)(hcl:cb<w.heap.size)(ht:Zj w vt p) :
 Calls prog 117 #[ς A n C,π (some ⟨cb,0,none⟩)] w (fP (.many p) f w):=by
 obtain⟨gf,caps,rfl,eg,hc⟩:=ht;have HT:=QA hc;have HC:=QA (fun(W:World)(hW:Below w.heap.size w W)=>(hW.cell (p:=⟨cb,0,none⟩) hcl).trans hcb);have HF:Hid (bR w w p f A n C f):=⟨hf,rfl⟩;unfold Vp at eg;clear hf hcb hcl hc;go_enter func117,ntmps117;go_wp2
 go_loopw [0] (fun s0 wr=>∃A n C g,s0=ς A n C∧Hid (bR w wr p f A n C g)∧Hid (Below w.heap.size w wr)) (fun s0 _=>vF s0)
 case atStart=>exact⟨A,n,C,f,rfl,HF.out,QE _ _⟩
 case round =>
  obtain⟨A,n,C,g,rfl,HM,HB⟩:=hrel;cases hg:g with
  |nil =>
   rw[hg]at HM;obtain⟨A0,C0,e,_,_⟩:=HM.out.1.slice;injection e with e1 e2 e3;subst e1;subst e3;simp only[F.len]at e2;subst e2;have HE:Hid (Fs w (Lo w.heap.size) (ς A 0 C) (OI p f)):=by have:=HM.out.1;rw[←HM.out.2];exact this
   clear HM hg;go_wp2
   go_quiet (fail)
   go_wp2
   go_ret2
   exact⟨pP HB.out _,.inr ⟨_,_,_,_,rfl,rfl,HE.out⟩⟩
  |cons k x y c r =>
   rw[hg]at HM;obtain⟨b,off,s,rfl,hb0,hi,hat⟩:=HM.out.1.at_ (i:=0) rfl;obtain⟨As,Cs,rfl,_,_⟩:=hat.kids.slice;have hb:b<wr.heap.size:=Nat.lt_of_lt_of_le hb0 HB.out.size;have cc:∀o,wr.cell? ⟨b,o,none⟩=w.cell? ⟨b,o,none⟩:=fun o=>HB.out.cell (p:=⟨b,o,none⟩) hb0
   have c0:=hat.c0;have c1:=hat.c1;have c2:=hat.c2;have c3:=hat.c3;simp only[Nat.zero_mul,Nat.add_zero,←cc]at c0 c1 c2 c3;obtain⟨qc,Ld,RS,hrl,hr⟩:=HM.out.1.tail;obtain⟨A',n',C',hsl,en,eC,hA'⟩:=Ju b off n C qc Ld;have hr2:=hr A' hA';rw[←en,←eC]at hr2;have HQ:=QA (fun(W:World)(hW:Below wr.heap.size wr W)=>HT.out W (HB.out.trans (hW.mono HB.out.size)) k x y As c.len Cs);have hlt:n'<n:=ω
   have hn0:(0:Int)<(n:Int):=ω
   have Ri:(1:Int)≤(n:Int):=ω
   have hdrop:OI p (.cons k x y c r)=if p k x then OI p r else .cons k x y c r:=rfl
   cases hp:p k x with
   |true =>
    have SD:Hid (∀W,Below wr.heap.size wr W→bR w W p f A' n' C' r):=fun W hW=>⟨hr2,by rw[←HM.out.2,hdrop,hp];rfl⟩
    rw[hp]at HQ;clear HM hg hat cc hr hr2 hdrop hp hA' eC en;go_wp2;refine Ek (fun W W'=>Below W.heap.size W W') [Cd.is (ς (some ⟨b,off,none⟩) n C),Cd.is (ι γ (n:Int)),Cd.is (τ true),Cd.is (τ true),Cd.is (Value.func (.func gf) #[] caps),Cd.is (ς (some ⟨b,off,none⟩) n C),Cd.is (π (some ⟨b,off,none⟩)),Cd.is (ξ #[ι γ k,σ x,σ y,ς As c.len Cs]),Cd.is (τ true),Cd.is (τ true)] χ δ χ (QE _ _) (fun _ _ _ h k=>h.trans (k.mono h.size)) ?steps ?behind
    case steps =>
     intro xv W hW a ha;replace hW:=vH hW;simp only[Qi]at ha;simp only[ZC,ZA,QZ,ZL,Nat.reduceAdd]at ha;subst ha;refine⟨?s0,?s1,?s2,?s3,?s4,?s5,?s6,?s7,?s8,?s9,trivial⟩;all_goals intro hd K hK
     all_goals(try simp only[Act.put,ZC,ZA,QZ]at hK)
     case s0=>clear hd;exact c110
     case s1=>exact c143
     case s2=>exact c145
     case s3=>have hx2:xv 2=τ true:=hd 2 χ;clear hd;rw[hx2]at hK⊢;exact c110
     case s4=>exact c140
     case s5=>have hx3:xv 3=τ true:=hd 3 χ;clear hd;rw[hx3]at hK⊢;exact c110
     case s6=>exact c141
     case s7=>exact c136
     case s8 =>
      have hx3:xv 3=τ true:=hd 3 χ;have JJ:xv 4=Value.func (.func gf) #[] caps:=hd 4 χ;have YX:xv 7=ξ #[ι γ k,σ x,σ y,ς As c.len Cs]:=hd 7 χ;clear hd;rw[hx3]at hK⊢;rw[JJ]at hK⊢;rw[YX]at hK⊢;refine(if_pos (by rfl)).mpr ?_;go_simp
      go_at_fn gf
      exact c162
     case s9=>have hx3:xv 3=τ true:=hd 3 χ;have UX:xv 8=τ true:=hd 8 χ;clear hd;rw[hx3]at hK⊢;rw[UX]at hK⊢;exact c110
    case behind =>
     intro xv W hW hx a ha;replace hW:=vH hW;simp only[Qi]at ha;simp only[ZC,ZA,QZ,ZL,Nat.reduceAdd]at ha;subst ha;have h9:xv 9=τ true:=hx 9 δ;rw[h9];have HW:=VO HB hW;have HG:=QA (SD.out W hW);clear hW hx h9 HQ SD HB;go_wp2
     go_roundw
     case rel=>exact⟨A',n',C',r,rfl,HG.out,HW.out⟩
     case measure=>simp[vF];omega
   |false =>
    have HE:Hid (Fs w (Lo w.heap.size) (ς (some ⟨b,off,none⟩) n C) (OI p f)):=by rw[←HM.out.2,hdrop,hp];exact HM.out.1
    rw[hp]at HQ;clear HM hg hat cc hr hr2 hdrop hp hA' eC en;go_wp2;refine Ek (fun W W'=>Below W.heap.size W W') [Cd.is (ς (some ⟨b,off,none⟩) n C),Cd.is (ι γ (n:Int)),Cd.is (τ true),Cd.is (τ true),Cd.is (Value.func (.func gf) #[] caps),Cd.is (ς (some ⟨b,off,none⟩) n C),Cd.is (π (some ⟨b,off,none⟩)),Cd.is (ξ #[ι γ k,σ x,σ y,ς As c.len Cs]),Cd.is (τ false),Cd.is (τ false)] χ δ χ (QE _ _) (fun _ _ _ h k=>h.trans (k.mono h.size)) ?steps ?behind
    case steps =>
     intro xv W hW a ha;replace hW:=vH hW;simp only[Qi]at ha;simp only[ZC,ZA,QZ,ZL,Nat.reduceAdd]at ha;subst ha;refine⟨?s0,?s1,?s2,?s3,?s4,?s5,?s6,?s7,?s8,?s9,trivial⟩;all_goals intro hd K hK
     all_goals(try simp only[Act.put,ZC,ZA,QZ]at hK)
     case s0=>clear hd;exact c110
     case s1=>exact c143
     case s2=>exact c145
     case s3=>have hx2:xv 2=τ true:=hd 2 χ;clear hd;rw[hx2]at hK⊢;exact c110
     case s4=>exact c140
     case s5=>have hx3:xv 3=τ true:=hd 3 χ;clear hd;rw[hx3]at hK⊢;exact c110
     case s6=>exact c141
     case s7=>exact c136
     case s8 =>
      have hx3:xv 3=τ true:=hd 3 χ;have JJ:xv 4=Value.func (.func gf) #[] caps:=hd 4 χ;have YX:xv 7=ξ #[ι γ k,σ x,σ y,ς As c.len Cs]:=hd 7 χ;clear hd;rw[hx3]at hK⊢;rw[JJ]at hK⊢;rw[YX]at hK⊢;refine(if_pos (by rfl)).mpr ?_;go_simp
      go_at_fn gf
      exact c162
     case s9=>have hx3:xv 3=τ true:=hd 3 χ;have UX:xv 8=τ false:=hd 8 χ;clear hd;rw[hx3]at hK⊢;rw[UX]at hK⊢;exact c110
    case behind =>
     intro xv W hW hx a ha;replace hW:=vH hW;simp only[Qi]at ha;simp only[ZC,ZA,QZ,ZL,Nat.reduceAdd]at ha;subst ha;have h9:xv 9=τ false:=hx 9 δ;rw[h9];have HW:=VO HB hW;clear hW hx h9 HQ;go_wp2
     go_ret2
     exact⟨HW.out,.inr ⟨_,_,_,_,rfl,rfl,HE.out⟩⟩
-- END MANY
theorem Qjq:Vp 117:=fun args w=>by simp[go_sem]
theorem Y6(p:Int→ByteArray→Bool)(gf:Nat)(caps:Array Value)(w:World)(ht:Zj w (.func (.func gf) #[] caps) p) :
 Calls Tryz.prog 87 #[.func (.func gf) #[] caps] w fun e w'=>Below w.heap.size w w'∧∃v,e=ρ v∧Zk w' v (.many p):=by
 have hb1:=Qa w (θ #[.func (.func gf) #[] caps] 115);have HF:Hid (Zk (w.alloc (θ #[.func (.func gf) #[] caps] 115)) (.func (.func 117) #[] #[π (some ⟨w.heap.size,0,none⟩)]) (.many p)):=by
  refine⟨_,_,rfl,Qjq,fun W hW A n C f hf=>Qox p w.heap.size (.func (.func gf) #[] caps) A n C f W hf ?_ ?_ ?_⟩
  ·exact(hW.cell (p:=⟨w.heap.size,0,none⟩) ψ).trans (by rw[World.cell?_alloc_at _ _ _ _ rfl];rfl)
  ·have:=hW.size;simp at this;omega
  ·exact ht.later (hb1.trans (hW.mono hb1.size))
 have HB:=Lib.hid hb1;clear ht hb1;go_enter Tryz.func87,Tryz.ntmps87;go_wp2;go_ret;exact⟨HB.out,_,rfl,HF.out⟩
structure Vx(w wr:World)(Rg:List Pt)(f:F)(k:Nat)(A:Option Addr)(n C:Nat)(g:F):Prop where
 fs:Fs wr (Lo wr.heap.size) (ς A n C) g
 eq:Qg (Rg.drop k) g=Qg Rg f
 QF:Below w.heap.size w wr
theorem Qkq{Rg:List Pt}{k:Nat}{pt:Pt}(h:Rg[k]?=some pt)(g:F):Qg (Rg.drop k) g=(match pt.take g with
 |none=>false
 |some g'=>Qg (Rg.drop (k+1)) g'):=by
 have hk:k<Rg.length:=(List.getElem?_eq_some_iff.1 h).1;have e:Rg[k]=pt:=by rw[List.getElem?_eq_getElem hk]at h;exact Option.some.inj h
 rw[List.drop_eq_getElem_cons hk,e,Qg];cases pt.take g <;> rfl
theorem Qoa:∀f:F,Qg [] f=decide (f.len=0)
 | .nil=>rfl
 | .cons ..=>by simp[Qg,F.len]
theorem G5(Rg:List Pt)(g n0:Nat)(A:Option Addr)(n C:Nat)(f:F)(w:World)(hf:Fs w (Lo w.heap.size) (ς A n C) f)(hl:Rg.length=n0)(hn:n0≤1000000)(hg:g<w.heap.size)
 (hts:∀i p,Rg[i]?=some p→∃v,w.cell? ⟨g,i,none⟩=some v∧Zk w v p) :
 Calls Tryz.prog 86 #[ς A n C,ς (some ⟨g,0,none⟩) n0 n0] w fun e w'=>e=ρ (τ (Qg Rg f))∧Below w.heap.size w w':=by
 have Hl:=Lib.hid hl;have Ht:=Lib.hid hts;have HG:=Lib.hid hg;have HF:Hid (Vx w w Rg f 0 A n C f):=⟨hf,rfl,Below.refl _ _⟩;clear hl hts hg hf;go_enter Tryz.func86,Tryz.ntmps86;go_wp2
 go_loopw [0,11] (fun s0 i wr=>∃(k:Nat)(A:Option Addr)(n C:Nat)(g':F),k≤n0∧i=ι γ k∧s0=ς A n C∧Hid (Vx w wr Rg f k A n C g')) (fun _ i _=>n0-(intOf i).toNat)
 case atStart=>exact⟨0,A,n,C,f,Nat.zero_le _,rfl,rfl,HF.out⟩
 case round =>
  obtain⟨k,A,n,C,g',hk,rfl,rfl,HM⟩:=hrel;by_cases hlt:k<n0
  ·obtain⟨pt,hp⟩:∃p,Rg[k]?=some p:=⟨_,List.getElem?_eq_getElem (by rw[Hl.out];exact hlt)⟩;obtain⟨v,hv,hok⟩:=Ht.out k pt hp;obtain⟨gf,c,rfl,eg,hc⟩:=hok;have hcell:=(HM.out.QF.cell (p:=⟨g,k,none⟩) HG.out).trans hv;have hlt':(k:Int)<(n0:Int):=ω
   have Wz:(0:Int)≤(k:Int):=ω
   have HC:=Lib.hid (hc wr HM.out.QF A n C g' HM.out.fs);have HS:=Lib.hid ((Qkq hp g').symm.trans HM.out.eq);unfold Vp at eg;clear hv hc hp;go_wp2_with fail;refine HC.out.mono ?_;rintro e w' ⟨hb1,hh⟩;have Z':=Lib.hid (HM.out.QF.trans (hb1.mono HM.out.QF.size));rcases hh with⟨ht,v,rfl⟩|⟨g2,A2,n2,C2,ht,rfl,hf2⟩
   ·have HE:Hid (Qg Rg f=false):=by show _=_;rw[←HS.out,ht]
    clear ht hb1;go_wp2;go_ret;exact⟨by rw[HE.out];rfl,Z'.out⟩
   ·have HE:Hid (Vx w w' Rg f (k+1) A2 n2 C2 g2):=⟨(hf2.below hb1 (Nat.le_refl _)).up hb1.size,by rw[←HS.out,ht],Z'.out⟩;clear ht hb1 hf2;go_wp2
    go_roundw
    case rel=>exact⟨k+1,A2,n2,C2,g2,ω,by go_num,rfl,HE.out⟩
    case measure=>simp[intOf];omega
  ·have hn':¬(k:Int)<(n0:Int):=ω
   obtain rfl:k=n0:=ω
   obtain⟨A0,C0,e,_,_⟩:=HM.out.fs.slice;injection e with e1 e2 e3;have HE:Hid (Qg Rg f=decide (n=0)):=by show _=_;rw[←HM.out.eq,List.drop_eq_nil_of_le (by rw[Hl.out];exact Nat.le_refl _),Qoa,e2]
   clear e1 e2 e3;by_cases hz:n=0
   ·subst hz;exact c120
   ·have hzz:((n:Int)==0)=false:=QM ω;rw[decide_eq_false hz]at HE;clear hz;exact c120
end Tree
namespace Lm
def RT{α:Type}(f:α→List Value)(sz:Nat)(w:World)(B:Nat)(A:Option Addr)(xs:List α):Prop :=
 xs=[]∨∃b,A=some ⟨b,0,none⟩∧b<B∧∀i x,xs[i]?=some x→∀j u,(f x)[j]?=some u→w.cell? ⟨b,i*sz+j,none⟩=some u
section
variable {α:Type}{f:α→List Value}{sz:Nat}{w w':World}{B B':Nat}{A:Option Addr}{xs:List α}
theorem RT.at_(h:RT f sz w B A xs)(hn:0<xs.length):∃b,A=some ⟨b,0,none⟩∧b<B∧∀i x,xs[i]?=some x→∀j u,(f x)[j]?=some u→w.cell? ⟨b,i*sz+j,none⟩=some u:=by
 rcases h with h|h
 ·subst h;simp at hn
 ·exact h
end
theorem rE{α:Type}{f:α→List Value}{sz:Nat}(hf:∀x,(f x).length=sz):∀xs:List α,(xs.flatMap f).length=xs.length*sz
 |[]=>ψ
 |x::xs=>by
  rw[List.flatMap_cons,List.length_append,hf,rE hf xs,List.length_cons,Nat.add_mul];omega
theorem Uz{α:Type}{f:α→List Value}{sz:Nat}(hf:∀x,(f x).length=sz):∀(xs:List α)(i:Nat)(x:α),xs[i]?=some x→∀(j:Nat)(u:Value),(f x)[j]?=some u→(xs.flatMap f)[i*sz+j]?=some u
 |[],i,x,h=>by simp at h
 |y::ys,0,x,h=>fun j u hu=>by
  simp only[List.getElem?_cons_zero,Option.some.injEq]at h;subst h;have hj:j<(f y).length:=by
   rcases Nat.lt_or_ge j (f y).length with h' |h'
   ·exact h'
   ·rw[List.getElem?_eq_none h']at hu;cases hu
  rw[List.flatMap_cons,Nat.zero_mul,Nat.zero_add,List.getElem?_append_left hj];exact hu
 |y::ys,i+1,x,h=>fun j u hu=>by
  have ih:=Uz hf ys i x (by simpa using h) j u hu;have hl:=hf y;rw[List.flatMap_cons,List.getElem?_append_right (by rw[hl,Nat.add_mul];omega),hl];rw[show(i+1)*sz+j-sz=i*sz+j from by rw[Nat.add_mul];omega];exact ih
theorem Qx7{α:Type}{f:α→List Value}{sz:Nat}(hf:∀x,(f x).length=sz){w:World}{base n c:Nat}{E:TypeId}{A:Option Addr}{xs:List α}(h:w.ownsRow base E sz (ς A n c) n (xs.flatMap f))(hn:xs.length=n) :
 RT f sz w w.heap.size A xs:=by
 rcases h.2 with⟨_,h0⟩|⟨g,cap,cur,hv,hg0,hg,h1,h2,h3,h4⟩
 ·exact .inl (List.eq_nil_of_length_eq_zero ω)
 ·injection hv with hA _ _;refine .inr ⟨g,hA,lt_of_block hg,fun i x hx j u hu=>?_⟩;have e:=Uz hf xs i x hx j u hu;rw[←h4,List.getElem?_take]at e;split at e
  ·simpa[World.cell?,hg]using e
  ·cases e
section
variable {P:Program}{T E:TypeId}{i0:TypeInfo}{z:Value}{sz Hd:Nat}
theorem Qpy(w:World){ops:Array Oper}{rest:List Oper}{o:Oper}{a:Act}{Q:Exit→Act→World→Prop}(hgd:o.guard=none)(s x:Operand)
 (ho:o.op=.call { callee:=.builtin .append,args:=#[s,x],argTypes:=#[T,T] }) (hT:P.underlying T=some (.slice E)) (hi0:P.info? E=some i0) (hz0:i0.zero=some z) (hz1:i0.size=sz) (hz2:i0.bytes=Hd) (Np:z.cells.size=sz) (hsz:0<sz)
 (base:Nat) (v:Value) (n:Nat) (vs cs:List Value) (hs:a.eval s=v) (hown:w.ownsRow base E sz v n vs) (hcs:cs.length=sz) (hu:∀u∈cs,u.oneCell'=true) (g:Nat) (hg:g=w.heap.size) (hx:a.eval x=ς (some ⟨g,0,none⟩) 1 1)
 (h63:n≤10000000) (hb:Hd≤100) (hbase:base≤w.heap.size)
 (h:∀v' w',w'.ownsRow base E sz v' (n+1) (vs++cs)→(w.alloc (θ cs.toArray E)).grownBy w' v.ownBlock→(∀B,(∀b,v.ownBlock=some b→B≤b)→B≤w.heap.size→Below B w w')→
  (v'.ownBlock=v.ownBlock∨v'.ownBlock=some (w.heap.size+1))→wpList P ops Q rest (a.put o.dst v') w') :
 wpList P ops Q (o::rest) a (w.alloc (θ cs.toArray E)):=by
 subst hg;have hmul:(n+1)*Hd≤10000001*100:=Nat.mul_le_mul ω hb;refine wpList_append_own_at (P:=P) _ hgd s x T ho base E i0 z sz Hd hT hi0 hz0 hz1 hz2 Np hsz v n vs hs (hown.alloc _) ⟨w.heap.size,0,none⟩ 1 1 cs hx ω (fun j u hj=>?_) hu (by unfold maxLen;omega) ω (by simp;omega) fun v' w' h1 h2 _ h4=>?_
 ·have e2:(⟨w.heap.size,0,none⟩:Addr).add j=⟨w.heap.size,j,none⟩:=by unfold Addr.add;split <;> simp_all
  rw[e2,World.cell?_alloc_at _ _ _ _ rfl];simpa using hj
 ·exact h v' w' h1 h2 (fun B hv hB=>((Below.refl B w).alloc hB _).grown h2 (by simp;omega) hv) (by simpa using h4)
end
