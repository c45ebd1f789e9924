import Derived.Test.YtmepekognmlblaaGreatDoorG46
import Derived.Deep.Slices
set_option maxHeartbeats 16000000
set_option maxRecDepth 100000
set_option linter.unusedVariables false
open Go.Proofs.Tryz Go.ChangeShapes Go.WideShapes Go.ChangeAt Go.RowKit
open Go.Lib renaming hid→QA
open Go.RowKit.Below renaming refl→QE
open Go.Value renaming string→σ,int→ι,slice→ς,bool→τ,agg→ξ
open Go.IntKind renaming i64→γ
open Go.Obj renaming cells→θ
open Go.Ending renaming returned→ρ
namespace Go.Proofs.YtmepekognmlblaaGreatDoor
namespace Shape
open Tree
section
variable {H:Type}{enc:TypeId×Value→H}{W:World}
theorem Qtc{k:Int}(h:(Lit.int γ k).wf=true):Hg k:=by
 simp[Lit.wf]at h;exact⟨by have:=h.1;rwa[show IntKind.i64.min = -9223372036854775808 from rfl]at this,h.2⟩
theorem Qfy(b:Nat):∀(m off n C:Nat),n≤C→C≤9223372036854775807→n=m→b<W.heap.size→
 (∀i,i<n→∃k x y s c,W.cell? ⟨b,off+i*4,none⟩=some (.int γ k)∧W.cell? ⟨b,off+i*4+1,none⟩=some (.string x)∧W.cell? ⟨b,off+i*4+2,none⟩=some (.string y)∧W.cell? ⟨b,off+i*4+3,none⟩=some s∧Fs W (Lo W.heap.size) s c∧Hg k∧Vf c)→
 ∃f,f.len=n∧Vf f∧∀A,(n=0∨A=some ⟨b,off,none⟩)→Fs W (Lo W.heap.size) (ς A n C) f
 |0,off,n,C,hC,hm,hn,hb,h=>by
  subst hn;exact⟨.nil,rfl,trivial,fun A _=>⟨A,C,rfl,hm⟩⟩
 |m+1,off,n,C,hC,hm,hn,hb,h=>by
  subst hn;obtain⟨C',rfl⟩:∃C',C=C'+1:=⟨C-1,ω⟩;obtain⟨k,x,y,s,c,c0,c1,c2,c3,hk,hi0,hi1⟩:=h 0 ω;simp only[Nat.zero_mul,Nat.add_zero]at c0 c1 c2 c3
  obtain⟨r,hr,kJ,hr2⟩:=Qfy b m (off+4) m C' ω ω rfl hb (fun i hi=>by
   obtain⟨k,x,y,s,c,c0,c1,c2,c3,hk⟩:=h (i+1) ω;rw[show off+(i+1)*4=off+4+i*4 by omega]at c0 c1 c2 c3;exact⟨k,x,y,s,c,c0,c1,c2,c3,hk⟩)
  refine⟨.cons k x y c r,by simp only[F.len,hr],⟨hi0,hi1,kJ⟩,fun A hA=>?_⟩;have hA':A=some ⟨b,off,none⟩:=hA.resolve_left ω;subst hA'
  exact⟨b,off,m,C',s,rfl,hr,ω,hm,hb,c0,c1,c2,c3,hk,fun A' hA'=>hr2 A' (by
   rcases hA' with h' |h'
   ·left;rw[h']at hr;exact hr.symm
   ·exact .inr h')⟩
theorem Qk8:∀(fuel:Nat)(cs:List Value)(x:DataW H×List MemPlace),DataW.trod enc prog W 0 (fun _=>true) true fuel 24 cs=some x→
 ∃k s t A n C c,cs=[.int γ k,.string s,.string t,ς A n C]∧Fs W (Lo W.heap.size) (ς A n C) c∧s.size≤maxLen∧t.size≤maxLen∧Hg k∧Vf c:=by
 intro fuel
 induction fuel using Nat.strongRecOn with
 |_ fuel ih =>
  intro cs x h;obtain⟨xs,m,Q1r,rfl,hl,hlen,hf⟩:=DataW.trod_struct underlying24 h;have hc4:prog.cellsOf 24=4:=χ
  rw[hc4]at hl
  match cs,hl with
  |[v0,v1,v2,v3],_ =>
   have g0:=hf 0 _ rfl;have g1:=hf 1 _ rfl;have g2:=hf 2 _ rfl;have g3:=hf 3 _ rfl;have ci:prog.cellsOf 3=1:=χ
   have dW:prog.cellsOf 9=1:=χ
   have csl:prog.cellsOf 22=1:=χ
   simp[ci,dW,csl]at g0 g1 g2 g3;have hl4:xs.length=4:=hlen
   match xs,hl4 with
   |[y0,y1,y2,y3],_ =>
    simp only[List.getElem?_cons_zero,List.getElem?_cons_succ]at g0 g1 g2 g3;obtain⟨k,e0,_,hkw⟩:=DataW.trod_int underlying3 g0;obtain⟨s,e1,_,hs⟩:=DataW.trod_string underlying9 g1;obtain⟨t,e2,_,ht⟩:=DataW.trod_string underlying9 g2;simp only[List.cons.injEq,and_true]at e0 e1 e2;subst e0;subst e1;subst e2;have hin:Hg k:=Qtc hkw;rcases DataW.trod_slice underlying22 g3 with⟨e3,_⟩|⟨a,len,cap,elems,rest,q,hq,e3,_,_,hlc,hcm,hel,hcell,_,_⟩
    ·simp only[List.cons.injEq,and_true]at e3;subst e3;exact⟨k,s,t,none,0,0,.nil,rfl,⟨none,0,rfl,ω⟩,hs,ht,hin,trivial⟩
    ·simp only[List.cons.injEq,and_true]at e3;subst e3;rw[hc4]at hcell;have hone:∀i,i<len→∃k x y s c,W.cell? (a.add (i*4))=some (.int γ k)∧W.cell? ((a.add (i*4)).add 1)=some (.string x)∧W.cell? ((a.add (i*4)).add 2)=some (.string y)∧W.cell? ((a.add (i*4)).add 3)=some s∧Fs W (Lo W.heap.size) s c∧Hg k∧Vf c:=by
      intro i hi;have hb:=hcell i hi;rw[List.getElem?_eq_getElem ω]at hb;obtain⟨cs',h1,h2⟩:=Option.bind_eq_some_iff.1 hb;obtain⟨k',s',t',A',n',C',c',e,VX,_,_,hi1,hi2⟩:=ih q ω cs' _ h2;subst e;obtain⟨_,_,hcs⟩:=World.cells?_some h1;have a0:(a.add (i*4)).add 0=a.add (i*4):=by unfold Addr.add;simp
      refine⟨k',s',t',ς A' n' C',c',?_,hcs 1 ω,hcs 2 ω,hcs 3 ω,VX,hi1,hi2⟩;have:=hcs 0 ω;rwa[a0]at this
     obtain⟨b,off,spot⟩:=a;by_cases hz:len=0
     ·subst hz;exact⟨k,s,t,_,0,cap,.nil,rfl,⟨_,cap,rfl,hcm⟩,hs,ht,hin,trivial⟩
     ·obtain⟨_,_,_,_,_,h0,_⟩:=hone 0 ω;have hspot:spot=none:=by simpa[Addr.add]using World.cell?_spot h0
      subst hspot;have hbl:b<W.heap.size:=by have:=World.block_lt_of_cell? W _ h0;simpa[Addr.add]using this
      have ad:∀o j,(⟨b,o,none⟩:Addr).add j=⟨b,o+j,none⟩:=fun o j=>by unfold Addr.add;split <;> simp_all
      obtain⟨f,hfl,FF,xw⟩:=Qfy (W:=W) b len off len cap hlc hcm rfl hbl (fun i hi=>by
       obtain⟨k,x,y,s,c,c0,c1,c2,c3,hk⟩:=hone i hi;simp only[ad]at c0 c1 c2 c3;exact⟨k,x,y,s,c,c0,c1,c2,c3,hk⟩)
      exact⟨k,s,t,_,len,cap,f,rfl,xw _ (.inr rfl),hs,ht,hin,FF⟩
theorem Qos{v:Value}{d:DataW H}{p:List MemPlace}(hv:∃cs,v = .agg cs∧cs.size=prog.cellsOf 24)(h:DataW.Trod enc prog W 0 (fun _=>true) true 24 v d p) :
 ∃k s t A n C c,v=.agg #[.int γ k,.string s,.string t,ς A n C]∧Fs W (Lo W.heap.size) (ς A n C) c∧s.size≤maxLen∧t.size≤maxLen∧Hg k∧Vf c:=by
 obtain⟨cs,rfl,_⟩:=hv;obtain⟨fuel,hf⟩:=h;obtain⟨k,s,t,A,n,C,c,e,r⟩:=Qk8 fuel _ _ hf;refine⟨k,s,t,A,n,C,c,?_,r⟩;simp only[Value.cells]at e
 congr 1
 exact Array.ext' (by simpa using e)
end
end Shape
namespace Match
open Mem Tree Shape
def bA(k:Int)(x y:ByteArray)(c:F):Prop:=(c.size+1≤400∧x.size≤1000000∧y.size≤1000000∧Zp c)∧Hg k∧Vf c
theorem Qyb{k:Int}{x y:ByteArray}{A:Option Addr}{n C:Nat}{c:F}{k':Int}{x' y':ByteArray}{A':Option Addr}{n' C':Nat}{c':F}{w:World}(hp:Pow w)(hT:Lex.XF w)(hf:Fs w (Lo w.heap.size) (ς A n C) c)(hf':Fs w (Lo w.heap.size) (ς A' n' C') c')
 (h:bA k x y c) (h':bA k' x' y' c'):Calls Tryz.prog 12 #[ξ #[ι γ k,σ x,σ y,ς A n C],ξ #[ι γ k',σ x',σ y',ς A' n' C']] w (Qno w 0 (Rz k x y c k' x' y' c')):=by
 obtain⟨⟨h1,h2,h3,h4⟩,h5,h6⟩:=h;obtain⟨⟨g1,g2,g3,g4⟩,g5,g6⟩:=h';have ho:=Qy k x y A n C c k' x' y' A' n' C' c' w hp hT hf hf' ω ω (fun _=>yG ω) (fun _=>yG ω) ⟨h2,h3,h4,g2,g3,g4,trivial⟩ ⟨h5,h6,g5,g6,trivial⟩;rwa[if_neg ω]at ho
def Qzh(k:Int)(x y:ByteArray)(c:F)(v:Value)(W:World):Prop:=∃A n C,v=ξ #[ι γ k,σ x,σ y,ς A n C]∧Fs W (Lo W.heap.size) (ς A n C) c
def Qxc(k:Int)(x y:ByteArray)(c:F):Cd TB:=⟨Qzh k x y c,fun v W W' hb h=>by
 obtain⟨A,n,C,e,hf⟩:=h;exact⟨A,n,C,e,hf.later hb⟩⟩
def Q0m(L:List P2)(u:Value)(W:World):Prop:=∃v,u=.tuple #[v,ι γ 0]∧Qm W (Lo W.heap.size) v L
def gU(L:List P2):Cd TB:=⟨Q0m L,fun v W W' hb h=>by
 obtain⟨u,e,hp⟩:=h;exact⟨u,e,hp.later hb⟩⟩
def cPr(L:List P2):Cd TB:=⟨fun v W=>Qm W (Lo W.heap.size) v L,fun v W W' hb h=>h.later hb⟩
theorem Qwo{w w':World}{v:Value}{c:F}(h:pB w w' v (KH c)):Fs w' (Lo w'.heap.size) v c:=by
 have h2:=h.fs;rw[yK]at h2;exact h2.more fun b hb=>hb.2
theorem Qwf(n:Nat):(SN n).length=n:=by simp[SN]
theorem Qyy{n i:Nat}(h:i<n):(SN n)[i]?=some ((i:Int),(i:Int)):=by simp[SN,h]
theorem Qdv(k:Int)(x y:ByteArray)(A:Option Addr)(n C:Nat)(c:F)(w:World)(hf:Fs w (Lo w.heap.size) (ς A n C) c)(hP:Pow w)(hT:Lex.XF w)(hk:Hg k∧Vf c) :
 Calls Tryz.prog 4 #[ξ #[ι γ k,σ x,σ y,ς A n C]] w fun e w'=>e=ρ (τ true)∧Below w.heap.size w w':=by
 have b1:=Qz w (θ #[ι γ k,σ x,σ y,ς A n C] 24);have HX:=QA (J6 w k x y (ς A n C));have HF:=QA (hf.later b1);have IE:=QA (Qph k x y A n C c _ (hf.later b1));have Z':=QA b1;have NR:=QA (And.intro (hP.on b1) (hT.below b1 hT.pos));have Re:=QA hk;obtain⟨q0,q1,q2,q3⟩:=HX.out _ (QE _ _);obtain⟨fb,cE⟩:=Mem.QD (vq k x y c);rw[cE]at IE;have TX:=QA cE;clear hf b1 cE hP hT hk;go_enter Tryz.func4,Tryz.ntmps4;go_wp2_with fail;obtain⟨w0,hw0⟩:=Mem.QD (w.alloc (θ #[ι γ k,σ x,σ y,ς A n C] 24));rw[hw0]at HX HF IE Z' NR q0 q1 q2 q3⊢;clear hw0;refine c₁ IE.out fun w1 hb=>?_;have Md:=QA hb;have Ra:=QA (And.intro (NR.out.1.on hb) (NR.out.2.below hb NR.out.2.pos));have XC:=VO Z' hb;clear hb q0 q1 q2 q3 IE NR;cases fb with
 |false=>go_wp2_with fail;refine c₁ (Uu w1 Ra.out.1 Ra.out.2) fun w2 hb=>?_;have VG:=VO XC hb;clear hb;go_wp2;go_ret;exact⟨rfl,VG.out⟩
 |true =>
  have hs:=Qly TX.out;have MK:Hid (bA k x y c):=⟨hs,Re.out⟩;have XO:Hid (c.size+1≤400):=hs.1;have XY:=QA (HF.out.later Md.out);clear hs Re TX HF
  go_upto_region 3 with(fail)
  refine Qv [Cd.is (ξ #[ι γ k,σ x,σ y,ς A n C]),Cd.is (ξ #[ι γ k,σ x,σ y,ς A n C]),Qxc k x y c,gU (SN (c.size+1)),gU (SN (c.size+1)),cPr (SN (c.size+1)),Cd.is (ι γ 0),cPr (SN (c.size+1)),Cd.is (ι γ 0)] ?steps ?behind
  case steps =>
   intro xv W hW;refine⟨?s0,?s1,?s2,?s3,?s4,?s5,?s6,?s7,?s8,trivial⟩;all_goals intro hd K hK
   all_goals(try simp only[Act.put,List.setIfInBounds_toArray,List.set_cons_succ,List.set_cons_zero]at hK)
   case s0|s1=>clear hd;obtain⟨q0,q1,q2,q3⟩:=HX.out W (Md.out.trans (hW.mono Md.out.size));exact c16
   case s2=>have hx1:xv 1=ξ #[ι γ k,σ x,σ y,ς A n C]:=hd 1;clear hd;rw[hx1]at hK⊢;go_simp;go_at_call 15;refine(Qts c.size k x y A n C c W (Nat.le_refl _) (by have:=XO.out;omega) (XY.out.later hW)).mono ?_;rintro e w' ⟨hb,A2,n2,C2,rfl,Fx⟩;exact hK.out _ _ hb ⟨A2,n2,C2,rfl,Qwo Fx⟩
   case s3=>have hx0:xv 0=ξ #[ι γ k,σ x,σ y,ς A n C]:=hd 0;have hx2:(Qxc k x y c).p (xv 2) W:=hd 2;clear hd;rw[hx0]at hK⊢;obtain⟨A2,n2,C2,e2,hf2⟩:=hx2;rw[e2]at hK⊢;have HO:=QA (Qyb (Ra.out.1.on hW) (Ra.out.2.below hW Ra.out.2.pos) (XY.out.later hW) hf2 MK.out MK.out);rw[Qva (by have:=XO.out;omega)]at HO;clear e2 hf2;go_simp;go_at_call 12;refine HO.out.mono ?_;rintro e w' ⟨hb,v,rfl,hp⟩;exact hK.out _ _ hb ⟨v,rfl,hp.more fun b h=>h.2⟩
   case s4=>have hx3:(gU (SN (c.size+1))).p (xv 3) W:=hd 3;clear hd;obtain⟨v,e,hp⟩:=hx3;rw[e]at hK⊢;clear e;go_simp;exact hK.out _ _ (QE _ _) ⟨v,rfl,hp⟩
   case s5=>have JJ:(gU (SN (c.size+1))).p (xv 4) W:=hd 4;clear hd;obtain⟨v,e,hp⟩:=JJ;rw[e]at hK⊢;clear e;go_simp;exact hK.out _ _ (QE _ _) hp
   case s6=>have JJ:(gU (SN (c.size+1))).p (xv 4) W:=hd 4;clear hd;obtain⟨v,e,hp⟩:=JJ;rw[e]at hK⊢;clear e;exact c16
   case s7=>have JB:Qm W (Lo W.heap.size) (xv 5) (SN (c.size+1)):=hd 5;clear hd;obtain⟨Al,Cl,e⟩:=Qm.slice JB;rw[e]at hK JB⊢;clear e;go_simp;exact hK.out _ _ (QE _ _) JB
   case s8=>have JR:xv 6=ι γ 0:=hd 6;clear hd;rw[JR]at hK⊢;exact c16
  case behind =>
   intro xv W hW hx;have hp:Qm W (Lo W.heap.size) (xv 7) (SN (c.size+1)):=hx 7;have h8:xv 8=ι γ 0:=hx 8;obtain⟨Al,Cl,e7⟩:=hp.slice;rw[e7]at hp;rw[h8,e7];rw[Qwf]at hp⊢;have HL:=QA hp;have VG:=VO XC hW;have HX3:Hid (∀W',Below W.heap.size W W'→_):=fun W' hW'=>HX.out W' (Md.out.trans ((hW.trans (hW'.mono hW.size)).mono Md.out.size))
   have sN:=QA (XY.out.later hW);have MG:=QA (Uu W (Ra.out.1.on hW) (Ra.out.2.below hW Ra.out.2.pos));clear hp h8 e7 hx hW Ra XY HX Md XC;generalize W=w3 at *;go_wp2_with fail;refine c₁ MG.out fun w4 hb4=>?_;have KF:=VO VG hb4;have Bb:=QA (HL.out.later hb4);have HZ:=QA (Qbr k x y A n C c 401 w4 (sN.out.later hb4) ω ω);rw[show min (c.size+1) 401=c.size+1 by have:=XO.out;omega]at HZ;obtain⟨q0,q1,q2,q3⟩:=HX3.out w4 hb4;obtain⟨N,hN⟩:=Mem.QD (c.size+1);have HN:Hid (N≤400):=by show _≤_;rw[←hN];exact XO.out
   rw[hN]at HZ Bb⊢;clear hb4 hN HX3 sN VG HL MG XO;go_wp2_with fail;refine HZ.out.mono ?_;rintro e w5 ⟨rfl,Y'⟩;have LO:=VO KF Y';have HL5:=QA (Bb.out.later Y');clear Y' KF Bb HZ q0 q1 q2 q3;have hnn:((N:Int) != (N:Int))=false:=ψ
   go_wp2
   go_loopw [5] (fun s W=>∃i:Nat,i≤N∧s=ι γ (i:Int)∧Hid (Below w5.heap.size w5 W)) (fun s _=>N-(intOf s).toNat)
   case atStart=>exact⟨0,Nat.zero_le _,rfl,QE _ _⟩
   case round =>
    obtain⟨i,hi,rfl,YR⟩:=hrel;by_cases hlt:i<N
    ·have hnb:N≤400:=HN.out;have hlt':(i:Int)<(N:Int):=ω
     have KZ:(0:Int)≤(i:Int):=ω
     obtain⟨b',Ni,e',_,c0,c1⟩:=Qm.at_ (HL5.out.later YR.out) (Qyy hlt);subst e';have hpe:=Qmx (i:Int) (i:Int) (i:Int) (i:Int);rw[show(((i:Int)==(i:Int))&&((i:Int)==(i:Int)))=true by simp]at hpe;go_wp2
     go_roundw
     case rel=>exact⟨i+1,ω,by go_num,YR⟩
     case measure=>simp[intOf];omega
    ·obtain rfl:N=i:=ω
     have hlt':¬(N:Int)<(N:Int):=ω
     have HE:=QA (LO.out.trans (YR.out.mono LO.out.size));go_wp2;go_ret;exact⟨rfl,HE.out⟩
