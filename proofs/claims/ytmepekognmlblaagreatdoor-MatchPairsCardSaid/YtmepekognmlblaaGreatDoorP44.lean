import Derived.Test.YtmepekognmlblaaGreatDoorP34
import Derived.Test.YtmepekognmlblaaGreatDoorP38
import Derived.OwnWalkIn
import Derived.TacticsInMore
import Derived.LoopNIn
import Derived.LoopIn
set_option maxHeartbeats 8000000
set_option maxRecDepth 100000
set_option linter.unusedVariables false
open Go.ChangeShapes Go.WideShapes Go.ChangeAt Go.RowKit
open Go.Lib renaming hid→QA
open _root_.List renaming length_cons→GW
open Go.World renaming cell?_of_block→JW
open Go.Value renaming string→σ,int→ι,slice→ς,pointer→π,bool→τ,agg→ξ
open Go.IntKind renaming i64→γ
open Go.Obj renaming cells→θ
open Go.Ending renaming returned→ρ
namespace Go.Proofs.YtmepekognmlblaaGreatDoor
namespace Match
open Mem Tree Shape
def pG(k:Nat×Nat):Value:=.agg #[.int γ (k.1:Int),.int γ (k.2:Int)]
noncomputable def KO (k:Nat×Nat):Lit:=(Go.keyOf Tryz.prog 82 (pG k)).getD (.int γ 0)
theorem rz{k:Nat×Nat}(h1:k.1≤1000000)(h2:k.2≤1000000):Go.keyOf Tryz.prog 82 (pG k)=some (KO k):=by
 obtain⟨l,hl⟩:=Qul (k.1:Int) (k.2:Int) ω ω ω ω;have hl:Go.keyOf Tryz.prog 82 (pG k)=some l:=hl;unfold KO;rw[hl];rfl
theorem Qrf{k k':Nat×Nat}(h1:k.1≤1000000)(h2:k.2≤1000000)(h3:k'.1≤1000000)(h4:k'.2≤1000000)(e:KO k'=KO k):k'=k:=by
 have q1:=rz h1 h2;have q2:=rz h3 h4;rw[e]at q2;have:=Ej.inj q2 q1;obtain⟨x,y⟩:=k;obtain⟨x',y'⟩:=k';simp only[pG,Value.agg.injEq,Array.mk.injEq,List.cons.injEq,Value.int.injEq,true_and,and_true]at this;rw[show x'=x by omega,show y'=y by omega]
def KJ(n:Nat)(k:Nat×Nat):Nat:=k.1*n+k.2
def Lt(n:Nat)(j:Nat):Nat×Nat:=(j/n,j%n)
theorem rA{n:Nat}{k:Nat×Nat}(h:k.2<n):Lt n (KJ n k)=k:=by
 obtain⟨x,y⟩:=k;have h:y<n:=h;unfold Lt KJ;rw[Nat.mul_comm,Nat.mul_add_div ω,Nat.div_eq_of_lt h,Nat.mul_add_mod,Nat.mod_eq_of_lt h,Nat.add_zero]
theorem Qxw{n m:Nat}{k:Nat×Nat}(h:k.2<n)(h1:k.1<m):KJ n k<m*n:=by
 unfold KJ;have:=Nat.mul_le_mul_right n (show k.1+1≤m from h1);rw[Nat.succ_mul]at this;omega
section
variable (s:Sd)(M:List Int)(ov:List Nat)
def TC(k:Nat×Nat)(i:Nat):List Nat:=(List.range i).filter fun p=>QQ M p&&(Va s ov p&&(ov.getD p 0==k.1&&s.no p==k.2))
def BP(k:Nat×Nat)(i:Nat):List Nat:=(List.range i).filter fun p=>QQ M p&&(!Va s ov p&&(ov.getD p 0==k.1&&s.no p==k.2))
def XI(c i:Nat)(k:Nat×Nat):List Nat:=if c=0 then TC s M ov k i else if c=1 then TC s M ov k s.n++BP s M ov k i else TC s M ov k s.n++BP s M ov k s.n
end
section
variable {s:Sd}{M:List Int}{ov:List Nat}{k:Nat×Nat}{c i:Nat}
theorem Qrd:TC s M ov k (i+1)=TC s M ov k i++(if(QQ M i&&(Va s ov i&&(ov.getD i 0==k.1&&s.no i==k.2)))=true then[i]else[]):=by
 unfold TC;rw[List.range_succ,List.filter_append]
 congr 1
 exact c124
theorem Qrb:BP s M ov k (i+1)=BP s M ov k i++(if(QQ M i&&(!Va s ov i&&(ov.getD i 0==k.1&&s.no i==k.2)))=true then[i]else[]):=by
 unfold BP;rw[List.range_succ,List.filter_append]
 congr 1
 exact c124
theorem Qq8:XI s M ov 0 0 k=[]:=rfl
theorem Qq9(h:c<2):XI s M ov c s.n k=XI s M ov (c+1) 0 k:=by
 have:c=0∨c=1:=ω
 rcases this with rfl|rfl
 ·show TC s M ov k s.n=TC s M ov k s.n++[];rw[List.append_nil]
 ·rfl
theorem Qun(o m:Nat):XI s M ov 2 0 (o,m)=Xd s M ov o m:=rfl
theorem iL(h:c<2):XI s M ov c (i+1) k=XI s M ov c i k++(if(QQ M i&&((Va s ov i==decide (c=0))&&(ov.getD i 0==k.1&&s.no i==k.2)))=true then[i]else[]):=by
 have:c=0∨c=1:=ω
 rcases this with rfl|rfl
 ·show TC s M ov k (i+1)=TC s M ov k i++_;rw[Qrd]
  congr 1
  rw[show(Va s ov i==decide (0=0))=Va s ov i by cases Va s ov i <;> rfl]
 ·show TC s M ov k s.n++BP s M ov k (i+1)=(TC s M ov k s.n++BP s M ov k i)++_;rw[Qrb,List.append_assoc]
  congr 2
  rw[show(Va s ov i==decide (1=0))=!Va s ov i by cases Va s ov i <;> rfl]
theorem ũ(h:c<2)(hs:QQ M i=false∨Va s ov i≠decide (c=0)):XI s M ov c (i+1) k=XI s M ov c i k:=by
 rw[iL h,if_neg,List.append_nil];intro hh;simp only[Bool.and_eq_true,beq_iff_eq]at hh;rcases hs with hs|hs
 ·rw[hs]at hh;exact absurd hh.1 ψ
 ·exact hs hh.2.1
theorem Qum(h:c<2)(hf:QQ M i=true)(hk:Va s ov i=decide (c=0)):XI s M ov c (i+1) (ov.getD i 0,s.no i)=XI s M ov c i (ov.getD i 0,s.no i)++[i]:=by
 rw[iL h,if_pos];rw[hf,hk];simp
theorem Qn5(h:c<2){k':Nat×Nat}(hk:k'≠(ov.getD i 0,s.no i)):XI s M ov c (i+1) k'=XI s M ov c i k':=by
 rw[iL h,if_neg,List.append_nil];intro hh;simp only[Bool.and_eq_true,beq_iff_eq]at hh;apply hk;obtain⟨x,y⟩:=k';rw[hh.2.2.1,hh.2.2.2]
theorem Ċ:(TC s M ov k i).length≤i:=by
 unfold TC;exact c64
theorem ċ:(BP s M ov k i).length≤i:=by
 unfold BP;exact c64
theorem Č(hi:i≤s.n):(XI s M ov c i k).length≤s.n+s.n:=by
 have h1:=Ċ (s:=s) (M:=M) (ov:=ov) (k:=k) (i:=i);have h2:=Ċ (s:=s) (M:=M) (ov:=ov) (k:=k) (i:=s.n);have h3:=ċ (s:=s) (M:=M) (ov:=ov) (k:=k) (i:=i);have h4:=ċ (s:=s) (M:=M) (ov:=ov) (k:=k) (i:=s.n);unfold XI;split
 ·omega
 ·split
  ·rw[List.length_append];omega
  ·rw[List.length_append];omega
end
end Match
namespace Tree
open Mem
theorem pS(N:Nat):Ym N:=by
 induction N using Nat.strongRecOn with
 |_ N ih=>exact fQ N ih
def Qp5(B0:Nat)(w:World)(L:List Nd)(e:Ending)(w':World):Prop:=Below w.heap.size w w'∧∃(av:Option Addr)(ln Cv:Nat),e=ρ (ς av ln Cv)∧Zs w' (Mi B0 w.heap.size) (ς av ln Cv) L∧∀g,(ς av ln Cv).ownBlock=some g→w.heap.size≤g
theorem Qke(B0:Nat)(k:Int)(x y:ByteArray)(A:Option Addr)(n C:Nat)(c:F)(w:World)(hbig:c.size≤100000)(hf:Fs w (Mi B0 w.heap.size) (ς A n C) c) :
 Calls Tryz.prog 76 #[ξ #[ι γ k,σ x,σ y,ς A n C]] w fun e w'=>Qp5 B0 w (⟨k,x,y,c⟩::nodes c) e w':=by
 have b3:=Qty w (θ #[ι γ k,σ x,σ y,ς A n C] 24) (θ #[ς none 0 0] 22) (θ #[.func (.func 108) #[] #[π (some ⟨w.heap.size+1,0,none⟩),π (some ⟨w.heap.size+1+1,0,none⟩)]] 134);have KB:=(Vc w k x y (ς A n C)).below ((Qt (w.alloc (θ #[ι γ k,σ x,σ y,ς A n C] 24)) (θ #[ς none 0 0] 22) (θ #[.func (.func 108) #[] #[π (some ⟨w.heap.size+1,0,none⟩),π (some ⟨w.heap.size+1+1,0,none⟩)]] 134))) ψ;obtain⟨p0,p1,p2,p3⟩:=KB.cells;have hL:Bz (((w.alloc (θ #[ι γ k,σ x,σ y,ς A n C] 24)).alloc (θ #[ς none 0 0] 22)).alloc (θ #[.func (.func 108) #[] #[π (some ⟨w.heap.size+1,0,none⟩),π (some ⟨w.heap.size+1+1,0,none⟩)]] 134)) B0 w.heap.size (w.heap.size+1) (w.heap.size+1+1) (ς none 0 0) []:=by
  refine⟨?_,Zs.nil _ _,fun g e=>(by cases e),?_,⟨ω,ω,ω,b3.size⟩,ψ⟩
  ·have e:w.heap.size+1=(w.alloc (θ #[ι γ k,σ x,σ y,ς A n C] 24)).heap.size:=ψ
   rw[e];exact(Below.heap_alloc _ _ _ ψ).trans (heap_alloc_new _ _)
  ·rw[World.cell?_alloc_at _ _ _ _ ψ];rfl
 have HC:=Lib.hid (pS c.size k x y A n C c _ (w.heap.size+1) (w.heap.size+1+1) none 0 0 [] B0 w.heap.size (Nat.le_refl _) (by simp only[List.length_nil];omega) (hf.ZJ b3 (Nat.le_refl _)) hL);have hfn:=hL.fn;have HB:=Lib.hid b3;clear hL b3 KB hf;go_enter Tryz.func76,Tryz.ntmps76;go_wp2_with fail;refine HC.out.mono ?_;rintro e w4 ⟨rfl,av,ln,Cv,hadd⟩;rw[List.nil_append]at hadd;have hbc:=hadd.at_.box.cell;have HE:Hid (Below w.heap.size w w4):=⟨hadd.fr.os.trans HB.out.os,hadd.fr.tape.trans HB.out.tape,hadd.fr.output.trans HB.out.output,Nat.le_trans HB.out.size hadd.fr.size,fun b hb=>(hadd.fr.block b (Nat.lt_of_lt_of_le hb HB.out.size) ω (fun e=>by cases e)).trans (HB.out.block b hb)⟩;have HO:=Lib.hid hadd.at_.own;have HD:Hid (∀g,(ς av ln Cv).ownBlock=some g→w.heap.size≤g):=fun g e=>(hadd.at_.d g e).1
 clear hadd HC hfn p0 p1 p2 p3;go_wp2;go_ret;exact⟨HE.out,av,ln,Cv,rfl,HO.out,HD.out⟩
def Qw5(w:World)(k:Int)(x y:ByteArray)(c:F)(e:Ending)(w':World):Prop:=Below w.heap.size w w'∧∃(g:Nat)(A:Option Addr)(n C:Nat),e=ρ (.func (.func 75) #[] #[π (some ⟨g,0,none⟩)])∧w.heap.size≤g∧Boxed w' g k x y (ς A n C)∧Fs w' (Ll w.heap.size w') (ς A n C) c
theorem Qwy(k:Int)(x y:ByteArray)(A:Option Addr)(n C:Nat)(c:F)(w:World)(hbig:c.size≤100000)(hf:Fs w (Lo w.heap.size) (ς A n C) c) :
 Calls Tryz.prog 54 #[ξ #[ι γ k,σ x,σ y,ς A n C]] w fun e w'=>Qw5 w k x y c e w':=by
 have b1:=Qa w (θ #[ι γ k,σ x,σ y,ς A n C] 24);have HC:=Lib.hid (Qe8 c.size k x y A n C c _ (Nat.le_refl _) hbig (hf.later b1));have HB:=Lib.hid b1;clear b1 hf;go_enter Tryz.func54,Tryz.ntmps54;go_wp2_with fail;refine HC.out.mono ?_;rintro e w2 ⟨hb,Ar,nr,Cr,rfl,XM⟩;have b3:=Qa w2 (θ #[ι γ k,σ x,σ y,ς Ar nr Cr] 24);have XC:=VO HB hb;have VG:=VO XC b3;have HF:=Lib.hid (Uq XM b3);have HX:=Lib.hid (Vc w2 k x y (ς Ar nr Cr));clear hb b3 XM HC;go_wp2;go_ret;exact⟨VG.out,w2.heap.size,Ar,nr,Cr,rfl,XC.out.size,HX.out,HF.out.more fun b hb=>⟨Nat.le_trans HB.out.size hb.1,hb.2⟩⟩
end Tree
namespace Match
open Mem Tree
def UD(W W':World):Prop:=∀(b:Nat)(cs:Array Value)(fz:Nat×Nat),W.heap[b]?=some (θ cs 24 fz)→W'.heap[b]?=some (θ cs 24 fz)
section
variable {X Y Z W W':World}
theorem UD.refl(W:World):UD W W:=fun _ _ _ h=>h
theorem UD.trans(h:UD X Y)(k:UD Y Z):UD X Z:=fun b cs fz e=>k b cs fz (h b cs fz e)
theorem UD.below(h:Below W.heap.size W W'):UD W W':=fun b cs fz e=>(h.block b (Array.getElem?_eq_some_iff.1 e).1).trans e
theorem UD.put(W:World)(l:Nat)(o o':Obj)(h:W.heap[l]? = some o)(hc:o.isCells=false):UD W (W.putObj l o'):=fun b cs fz e=>(World.putObj_heap_other (fun q=>by
 subst q;rw[h]at e;cases e
 cases hc)).trans e
theorem UD.grown{row:Option Nat}(hg:X.grownBy Y row)(hr:∀r,row=some r→∀(cs:Array Value)(T:TypeId)(fz:Nat×Nat),X.heap[r]?=some (θ cs T fz)→T≠24):UD X Y:=fun b cs fz e =>
 (hg.block b (Array.getElem?_eq_some_iff.1 e).1 (fun q=>hr b q.symm cs _ fz e rfl)).trans e
end
structure VU where
 i:Nat
 k:Int
 x:ByteArray
 y:ByteArray
 A:Option Addr
 n:Nat
 C:Nat
def po(t:VU):Array Value:=#[ι γ (t.i:Int),ξ #[ι γ t.k,σ t.x,σ t.y,ς t.A t.n t.C]]
def bK(L:List Nd)(t:VU)(W:World):Prop:=∃nd,L[t.i]?=some nd∧nd.k=t.k
theorem Qop{w:World}{S:Nat→Prop}{g n C:Nat}{L:List Nd}(h:Zs w S (ς (some ⟨g,0,none⟩) n C) L):∃(cs:Array Value)(fz:Nat×Nat),w.heap[g]?=some (θ cs 24 fz):=by
 obtain⟨ps,_,ho,_⟩:=h;rcases ho.2 with⟨e,_⟩|⟨g',cap,cur,e,_,hh,_⟩
 ·cases e
 ·injection e with e1 _ _;injection e1 with e1;injection e1 with e1 _ _;subst e1;exact⟨_,_,hh⟩
theorem Qt3(n:Nat)(hn:1≤n)(l g:Nat)(k:Int)(x y:ByteArray)(A:Option Addr)(nA C:Nat)(c:F)(hbig:c.size≤100000)(J Jx:List VU→World→Prop)(W:World)
 (hJ:AbidesFrom W.heap.size J)
 (hY:∀pre t W1,J pre W1→bK (⟨k,x,y,c⟩::nodes c) t W1→(pre++[t]).map VU.i=List.range (pre++[t]).length→pre.length<(⟨k,x,y,c⟩::nodes c:List Nd).length→YieldAt Fence.wide (n-1) Tryz.prog l (po t) W1 fun e W' =>
  (e=ρ (τ true)∧J (pre++[t]) W'∧UD W1 W')∨(e=ρ (τ false)∧Jx (pre++[t]) W'))
 (JF:Tree.Boxed W g k x y (ς A nA C)) (hf:Fs W (Lo W.heap.size) (ς A nA C) c) (h0:J [] W) :
 CallsIn Fence.wide n Tryz.prog 75 #[.func (.yield l) #[] #[],π (some ⟨g,0,none⟩)] W fun e W'=>(∃v,e = ρ v)∧
  ((∃ys,ys.map VU.i=List.range (⟨k,x,y,c⟩::nodes c:List Nd).length∧J ys W')∨(∃pre,pre.map VU.i=List.range pre.length∧Jx pre W')):=by
 obtain⟨p0,p1,p2,p3⟩:=JF.cells;obtain⟨L,hL⟩:=Mem.QD ((⟨k,x,y,c⟩::nodes c:List Nd));have HL:=QA hL;have hY:=QA hY;have HJ:=QA hJ;have H0:=QA h0;have HC:=QA (callsIn_wide.2 (Qe8 c.size k x y A nA C c W (Nat.le_refl _) hbig hf):CallsIn Fence.wide (n-1) _ _ _ _ _);clear JF hf hJ h0;refine callsIn_of_wp Tryz.func75 rfl trivial ?_ rfl;simp only[Tryz.ntmps75,List.size_toArray,GW,List.length_nil,Nat.reduceAdd,Nat.reduceSub,Array.replicate_succ,Array.replicate_zero,List.push_toArray,List.append_toArray,List.nil_append,List.cons_append]
 gi_wp2
 refine⟨trivial,HC.out.mono ?_⟩;rintro e W1 ⟨hb1,A1,n1,C1,rfl,Pe⟩;have Z':=QA hb1;have UO:=QA (callsIn_wide.2 (Qke W.heap.size k x y A1 n1 C1 c W1 hbig (Pe.more fun b hb=>hb)):CallsIn Fence.wide (n-1) _ _ _ _ _);clear hb1 Pe HC
 gi_wp2
 refine⟨trivial,UO.out.mono ?_⟩;rintro e W2 ⟨hb2,av,ln,Cv,rfl,EI,hg2⟩;rw[HL.out]at EI;have hlen:L.length=ln:=by obtain⟨a,c',e,_,_⟩:=EI.slice;injection e with _ e2 _;exact e2.symm
 have yN:=QA hlen;have XC:=VO Z' hb2;have HO:=QA EI;have H02:=QA (HJ.out [] W W2 none H0.out (Jh XC.out none) (fun r e=>by cases e));have mL:ln≤100001:=by have:=Qj c;rw[←hlen,←hL,GW];omega
 have Rc:Hid ((nodes c).length+1=ln):=by show _=_;rw[←hlen,←hL,GW]
 clear hb2 EI hg2 UO H0 hlen hL
 gi_wp2
 gi_loopw [3,4,9] (fun _ _ i wr=>∃(j:Nat)(pre:List VU),j≤ln∧i = ι γ j∧Hid (pre.map VU.i=List.range j)∧Hid (J pre wr)∧Hid (UD W2 wr))
  (fun _ _ i _=>ln-(intOf i).toNat)
 case atStart=>exact⟨0,[],Nat.zero_le _,rfl,rfl,H02.out,UD.refl _⟩
 case round =>
  rename World=>W3
  obtain⟨j,pre,hj,rfl,hpre,hJs,lD⟩:=hrel;by_cases hlt:j<ln
  ·obtain⟨nd,hnd⟩:∃nd,L[j]?=some nd:=⟨_,List.getElem?_eq_getElem (by rw[yN.out];exact hlt)⟩;obtain⟨g2,s,rfl,hg2,c0,c1,c2,c3,VX⟩:=HO.out.at_ hnd;obtain⟨cs,fz,hblk⟩:=Qop HO.out;have hbk:=(lD.out g2 cs fz hblk).trans hblk.symm;have d0:=(JW (a:=⟨g2,j*4,none⟩) hbk).trans c0;have d1:=(JW (a:=⟨g2,j*4+1,none⟩) hbk).trans c1;have d2:=(JW (a:=⟨g2,j*4+2,none⟩) hbk).trans c2;have d3:=(JW (a:=⟨g2,j*4+3,none⟩) hbk).trans c3;obtain⟨kk,xx,yy,cc⟩:=nd;obtain⟨sa,sC,rfl,_,_⟩:=VX.slice;generalize hm:(Nd.mk kk xx yy cc).c.len=m at *;clear hm;have b4:=Qa W3 (θ #[ι γ kk,σ xx,σ yy,ς sa m sC] 24);have Í:=HJ.out pre W3 _ none hJs.out (Jh b4 none) (fun r e=>by cases e);have hpl:pre.length=j:=by have:=congrArg List.length hpre.out;simpa using this
   have TE:Hid ((pre++[(⟨j,kk,xx,yy,sa,m,sC⟩:VU)]).map VU.i=List.range (j+1)):=by show _=_;rw[List.map_append,hpre.out,List.range_succ];rfl
   obtain⟨fn,tmps,assign,body,hy,dm⟩:=hY.out pre ⟨j,kk,xx,yy,sa,m,sC⟩ _ Í ⟨_,by rw[HL.out];exact hnd,rfl⟩ (by rw[TE.out,List.length_append,hpl,List.length_singleton]) (by rw[hpl,HL.out,yN.out];exact hlt);dsimp only[po]at hy dm;have uM:=QA (lD.out.trans (UD.below b4));have HR:=QA dm;have hlt':(j:Int)<(ln:Int):=ω
   clear hpl b4 Í hbk hblk c0 c1 c2 c3 VX hnd dm
   gi_wp2
   refine HR.out.mono ?_;rintro e W5 (⟨rfl,hJ3,hk3⟩|⟨rfl,WV⟩)
   ·have Wx:=QA (uM.out.trans hk3);have hJ3:=QA hJ3;clear hk3
    gi_wp2
    go_roundw
    case rel=>exact⟨j+1,_,ω,by go_num,TE.out,hJ3.out,Wx.out⟩
    case measure=>simp[intOf];omega
   ·have WV:=QA WV
    gi_wp2
    refine bodyPost_ret (results_none rfl _ _ _) rfl ?_;refine⟨⟨_,rfl⟩,.inr ⟨_,?_,WV.out⟩⟩;rw[TE.out];have:=congrArg List.length TE.out;rw[List.length_map,List.length_range]at this;rw[this]
  ·obtain rfl:j=ln:=ω
   have hge:¬(j:Int)<(j:Int):=ω
   gi_wp2
   go_end0
   exact⟨⟨_,rfl⟩,.inl ⟨_,by rw[←List.range_succ,Nat.succ_eq_add_one,show(nodes c).length+1=j from Rc.out];exact hpre.out,hJs.out⟩⟩
theorem Ql5(n:Nat)(hn:1≤n)(g:Nat)(k:Int)(x y:ByteArray)(A:Option Addr)(nA C:Nat)(c:F)(hbig:c.size≤100000)(w:World)
 (JF:Tree.Boxed w g k x y (ς A nA C)) (hf:Fs w (Lo w.heap.size) (ς A nA C) c) :
 iP n Tryz.prog 75 #[π (some ⟨g,0,none⟩)] po (bK (⟨k,x,y,c⟩::nodes c)) UD (fun ys=>ys.map VU.i=List.range (c.size+1)) (fun pre=>pre.map VU.i=List.range pre.length) (c.size+1) w:=fun l J Jx W hW hJ _ hY h0=>by
 have hl:(⟨k,x,y,c⟩::nodes c:List Nd).length=c.size+1:=by rw[GW,Qj]
 have:=Qt3 n hn l g k x y A nA C c hbig J Jx W hJ (by rw[hl];exact hY) (JF.below hW JF.lt) (hf.later hW) h0;rwa[hl]at this
