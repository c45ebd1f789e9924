import Derived.Test.YtmepekognmlblaaGreatDoorS32
import Derived.Test.YtmepekognmlblaaGreatDoorS35
import Derived.RangeFuncWrites
import Derived.RangeFuncBox
import Derived.RangeFuncLeaves
set_option maxHeartbeats 8000000
set_option maxRecDepth 100000
set_option linter.unusedVariables false
open Go.ChangeShapes Go.WideShapes Go.ChangeAt Go.RowKit
open Go.Value renaming string→σ,int→ι,slice→ς,pointer→π,bool→τ,agg→ξ
open Go.IntKind renaming i64→γ
open Go.Obj renaming cells→θ
open Go.Ending renaming returned→ρ
namespace Go.Proofs.YtmepekognmlblaaGreatDoor
namespace Match
open Mem Tree Shape
def pG(k:Nat×Nat):Value:=.agg #[.int γ (k.1:Int),.int γ (k.2:Int)]
noncomputable def KO (k:Nat×Nat):Lit:=(Go.keyOf Tryz.prog 82 (pG k)).getD (.int γ 0)
theorem rz{k:Nat×Nat}(h1:k.1≤1000000)(h2:k.2≤1000000):Go.keyOf Tryz.prog 82 (pG k)=some (KO k):=by
 obtain⟨l,hl⟩:=Qul (k.1:Int) (k.2:Int) ω ω ω ω;have hl:Go.keyOf Tryz.prog 82 (pG k)=some l:=hl;unfold KO;rw[hl];rfl
theorem Qrf{k k':Nat×Nat}(h1:k.1≤1000000)(h2:k.2≤1000000)(h3:k'.1≤1000000)(h4:k'.2≤1000000)(e:KO k'=KO k):k'=k:=by
 have q1:=rz h1 h2;have q2:=rz h3 h4;rw[e]at q2;have:=Ej.inj q2 q1;obtain⟨x,y⟩:=k;obtain⟨x',y'⟩:=k';simp only[pG,Value.agg.injEq,Array.mk.injEq,List.cons.injEq,Value.int.injEq,true_and,and_true]at this;rw[show x'=x by omega,show y'=y by omega]
def KJ(n:Nat)(k:Nat×Nat):Nat:=k.1*n+k.2
def Lt(n:Nat)(j:Nat):Nat×Nat:=(j/n,j%n)
theorem rA{n:Nat}{k:Nat×Nat}(h:k.2<n):Lt n (KJ n k)=k:=by
 obtain⟨x,y⟩:=k;have h:y<n:=h;unfold Lt KJ;rw[Nat.mul_comm,Nat.mul_add_div ω,Nat.div_eq_of_lt h,Nat.mul_add_mod,Nat.mod_eq_of_lt h,Nat.add_zero]
theorem Qxw{n m:Nat}{k:Nat×Nat}(h:k.2<n)(h1:k.1<m):KJ n k<m*n:=by
 unfold KJ;have:=Nat.mul_le_mul_right n (show k.1+1≤m from h1);rw[Nat.succ_mul]at this;omega
section
variable (s:Sd)(M:List Int)(ov:List Nat)
def TC(k:Nat×Nat)(i:Nat):List Nat:=(List.range i).filter fun p=>QQ M p&&(Va s ov p&&(ov.getD p 0==k.1&&s.no p==k.2))
def BP(k:Nat×Nat)(i:Nat):List Nat:=(List.range i).filter fun p=>QQ M p&&(!Va s ov p&&(ov.getD p 0==k.1&&s.no p==k.2))
def XI(c i:Nat)(k:Nat×Nat):List Nat:=if c=0 then TC s M ov k i else if c=1 then TC s M ov k s.n++BP s M ov k i else TC s M ov k s.n++BP s M ov k s.n
end
section
variable {s:Sd}{M:List Int}{ov:List Nat}{k:Nat×Nat}{c i:Nat}
theorem Qrd:TC s M ov k (i+1)=TC s M ov k i++(if(QQ M i&&(Va s ov i&&(ov.getD i 0==k.1&&s.no i==k.2)))=true then[i]else[]):=by
 unfold TC;rw[List.range_succ,List.filter_append]
 congr 1
 exact c124
theorem Qrb:BP s M ov k (i+1)=BP s M ov k i++(if(QQ M i&&(!Va s ov i&&(ov.getD i 0==k.1&&s.no i==k.2)))=true then[i]else[]):=by
 unfold BP;rw[List.range_succ,List.filter_append]
 congr 1
 exact c124
theorem Qq8:XI s M ov 0 0 k=[]:=rfl
theorem Qq9(h:c<2):XI s M ov c s.n k=XI s M ov (c+1) 0 k:=by
 have:c=0∨c=1:=ω
 rcases this with rfl|rfl
 ·show TC s M ov k s.n=TC s M ov k s.n++[];rw[List.append_nil]
 ·rfl
theorem Qun(o m:Nat):XI s M ov 2 0 (o,m)=Xd s M ov o m:=rfl
theorem iL(h:c<2):XI s M ov c (i+1) k=XI s M ov c i k++(if(QQ M i&&((Va s ov i==decide (c=0))&&(ov.getD i 0==k.1&&s.no i==k.2)))=true then[i]else[]):=by
 have:c=0∨c=1:=ω
 rcases this with rfl|rfl
 ·show TC s M ov k (i+1)=TC s M ov k i++_;rw[Qrd]
  congr 1
  rw[show(Va s ov i==decide (0=0))=Va s ov i by cases Va s ov i <;> rfl]
 ·show TC s M ov k s.n++BP s M ov k (i+1)=(TC s M ov k s.n++BP s M ov k i)++_;rw[Qrb,List.append_assoc]
  congr 2
  rw[show(Va s ov i==decide (1=0))=!Va s ov i by cases Va s ov i <;> rfl]
theorem Ľ(h:c<2)(hs:QQ M i=false∨Va s ov i≠decide (c=0)):XI s M ov c (i+1) k=XI s M ov c i k:=by
 rw[iL h,if_neg,List.append_nil];intro hh;simp only[Bool.and_eq_true,beq_iff_eq]at hh;rcases hs with hs|hs
 ·rw[hs]at hh;exact absurd hh.1 ψ
 ·exact hs hh.2.1
theorem Qum(h:c<2)(hf:QQ M i=true)(hk:Va s ov i=decide (c=0)):XI s M ov c (i+1) (ov.getD i 0,s.no i)=XI s M ov c i (ov.getD i 0,s.no i)++[i]:=by
 rw[iL h,if_pos];rw[hf,hk];simp
theorem Qn5(h:c<2){k':Nat×Nat}(hk:k'≠(ov.getD i 0,s.no i)):XI s M ov c (i+1) k'=XI s M ov c i k':=by
 rw[iL h,if_neg,List.append_nil];intro hh;simp only[Bool.and_eq_true,beq_iff_eq]at hh;apply hk;obtain⟨x,y⟩:=k';rw[hh.2.2.1,hh.2.2.2]
theorem Ù:(TC s M ov k i).length≤i:=by
 unfold TC;exact c64
theorem Ú:(BP s M ov k i).length≤i:=by
 unfold BP;exact c64
theorem Û(hi:i≤s.n):(XI s M ov c i k).length≤s.n+s.n:=by
 have h1:=Ù (s:=s) (M:=M) (ov:=ov) (k:=k) (i:=i);have h2:=Ù (s:=s) (M:=M) (ov:=ov) (k:=k) (i:=s.n);have h3:=Ú (s:=s) (M:=M) (ov:=ov) (k:=k) (i:=i);have h4:=Ú (s:=s) (M:=M) (ov:=ov) (k:=k) (i:=s.n);unfold XI;split
 ·omega
 ·split
  ·rw[List.length_append];omega
  ·rw[List.length_append];omega
end
end Match
namespace Tree
open Mem
theorem pS(N:Nat):Ym N:=by
 induction N using Nat.strongRecOn with
 |_ N ih=>exact fQ N ih
def Qp5(B0:Nat)(w:World)(L:List Nd)(e:Ending)(w':World):Prop:=Below w.heap.size w w'∧∃(av:Option Addr)(ln Cv:Nat),e=ρ (ς av ln Cv)∧Zs w' (Mi B0 w.heap.size) (ς av ln Cv) L∧∀g,(ς av ln Cv).ownBlock=some g→w.heap.size≤g
theorem Qke(B0:Nat)(k:Int)(x y:ByteArray)(A:Option Addr)(n C:Nat)(c:F)(w:World)(hbig:c.size≤100000)(hf:Fs w (Mi B0 w.heap.size) (ς A n C) c) :
 Calls Tryz.prog 76 #[ξ #[ι γ k,σ x,σ y,ς A n C]] w fun e w'=>Qp5 B0 w (⟨k,x,y,c⟩::nodes c) e w':=by
 have b3:=Å w (θ #[ι γ k,σ x,σ y,ς A n C] 24) (θ #[ς none 0 0] 22) (θ #[.func (.func 108) #[] #[π (some ⟨w.heap.size+1,0,none⟩),π (some ⟨w.heap.size+1+1,0,none⟩)]] 134);have KB:=(Vc w k x y (ς A n C)).below ((Qt (w.alloc (θ #[ι γ k,σ x,σ y,ς A n C] 24)) (θ #[ς none 0 0] 22) (θ #[.func (.func 108) #[] #[π (some ⟨w.heap.size+1,0,none⟩),π (some ⟨w.heap.size+1+1,0,none⟩)]] 134))) ψ;obtain⟨p0,p1,p2,p3⟩:=KB.cells;have hL:Bz (((w.alloc (θ #[ι γ k,σ x,σ y,ς A n C] 24)).alloc (θ #[ς none 0 0] 22)).alloc (θ #[.func (.func 108) #[] #[π (some ⟨w.heap.size+1,0,none⟩),π (some ⟨w.heap.size+1+1,0,none⟩)]] 134)) B0 w.heap.size (w.heap.size+1) (w.heap.size+1+1) (ς none 0 0) []:=by
  refine⟨?_,Zs.nil _ _,fun g e=>(by cases e),?_,⟨ω,ω,ω,b3.size⟩,ψ⟩
  ·have e:w.heap.size+1=(w.alloc (θ #[ι γ k,σ x,σ y,ς A n C] 24)).heap.size:=ψ
   rw[e];exact(Below.heap_alloc _ _ _ ψ).trans (heap_alloc_new _ _)
  ·rw[World.cell?_alloc_at _ _ _ _ ψ];rfl
 have HC:=Lib.hid (pS c.size k x y A n C c _ (w.heap.size+1) (w.heap.size+1+1) none 0 0 [] B0 w.heap.size (Nat.le_refl _) (by simp only[List.length_nil];omega) (hf.ZJ b3 (Nat.le_refl _)) hL);have hfn:=hL.fn;have HB:=Lib.hid b3;clear hL b3 KB hf;go_enter Tryz.func76,Tryz.ntmps76;go_wp2_with fail;refine HC.out.mono ?_;rintro e w4 ⟨rfl,av,ln,Cv,hadd⟩;rw[List.nil_append]at hadd;have hbc:=hadd.at_.box.cell;have HE:Hid (Below w.heap.size w w4):=⟨hadd.fr.os.trans HB.out.os,hadd.fr.tape.trans HB.out.tape,hadd.fr.output.trans HB.out.output,Nat.le_trans HB.out.size hadd.fr.size,fun b hb=>(hadd.fr.block b (Nat.lt_of_lt_of_le hb HB.out.size) ω (fun e=>by cases e)).trans (HB.out.block b hb)⟩;have HO:=Lib.hid hadd.at_.own;have HD:Hid (∀g,(ς av ln Cv).ownBlock=some g→w.heap.size≤g):=fun g e=>(hadd.at_.d g e).1
 clear hadd HC hfn p0 p1 p2 p3;go_wp2;go_ret;exact⟨HE.out,av,ln,Cv,rfl,HO.out,HD.out⟩
def Qw5(w:World)(k:Int)(x y:ByteArray)(c:F)(e:Ending)(w':World):Prop:=Below w.heap.size w w'∧∃(g:Nat)(A:Option Addr)(n C:Nat),e=ρ (.func (.func 75) #[] #[π (some ⟨g,0,none⟩)])∧w.heap.size≤g∧Boxed w' g k x y (ς A n C)∧Fs w' (Ll w.heap.size w') (ς A n C) c
theorem Qwy(k:Int)(x y:ByteArray)(A:Option Addr)(n C:Nat)(c:F)(w:World)(hbig:c.size≤100000)(hf:Fs w (Lo w.heap.size) (ς A n C) c) :
 Calls Tryz.prog 54 #[ξ #[ι γ k,σ x,σ y,ς A n C]] w fun e w'=>Qw5 w k x y c e w':=by
 have b1:=Qa w (θ #[ι γ k,σ x,σ y,ς A n C] 24);have HC:=Lib.hid (Qe8 c.size k x y A n C c _ (Nat.le_refl _) hbig (hf.later b1));have HB:=Lib.hid b1;clear b1 hf;go_enter Tryz.func54,Tryz.ntmps54;go_wp2_with fail;refine HC.out.mono ?_;rintro e w2 ⟨hb,Ar,nr,Cr,rfl,XM⟩;have b3:=Qa w2 (θ #[ι γ k,σ x,σ y,ς Ar nr Cr] 24);have XC:=VO HB hb;have VG:=VO XC b3;have HF:=Lib.hid (Uq XM b3);have HX:=Lib.hid (Vc w2 k x y (ς Ar nr Cr));clear hb b3 XM HC;go_wp2;go_ret;exact⟨VG.out,w2.heap.size,Ar,nr,Cr,rfl,XC.out.size,HX.out,HF.out.more fun b hb=>⟨Nat.le_trans HB.out.size hb.1,hb.2⟩⟩
end Tree
namespace Mem
variable {P:Program}{n:Nat}
def iP{α:Type}(n:Nat)(P:Program)(g:Nat)(lb:Array Value)(ZI:α→Array Value)(R:α→World→Prop)(Kp:World→World→Prop)(S Sp:List α→Prop)(N:Nat)(w:World):Prop :=
 ∀(l:Nat)(J Jx:List α→World→Prop)(W:World),Below w.heap.size w W→AbidesFrom W.heap.size J→AbidesFrom W.heap.size Jx→
  (∀pre x W1,J pre W1→R x W1→Sp (pre++[x])→pre.length<N→YieldAt Fence.wide (n-1) P l (ZI x) W1 fun e W' =>
   (e=ρ (τ true)∧J (pre++[x]) W'∧Kp W1 W')∨(e=ρ (τ false)∧Jx (pre++[x]) W'))→
  J [] W→
  CallsIn Fence.wide n P g (#[.func (.yield l) #[] #[]]++lb) W fun e W'=>(∃v,e=ρ v)∧((∃xs,S xs∧J xs W')∨(∃pre,Sp pre∧Jx pre W'))
def recAt(fn:FuncId)(a:Act)(ps:Array Tmp)(assign body:Code)(D:Nat)(st:LoopState)(pe:Option Code):Loop:={ state:=st,pending:=pe,fn,tmps:=a.tmps,params:=ps,assign,body,defers:=D }
theorem Qid{α:Type}{g:Operand}{ps:Array Tmp}{assign body:Code}{Q:Exit→Act→World→Prop}{a:Act}{w:World}
 (h1:1≤n) {gf:Nat} {lb:Array Value} (hg:a.eval g=.func (.func gf) #[] lb) (eg:∀args w,(callFunc gf args).run P w=.ok (.enter gf args) w)
 {ZI:α→Array Value} {R:α→World→Prop} {Kp:World→World→Prop} {S Sp:List α→Prop} {N:Nat} (hseq:iP (n-1) P gf lb ZI R Kp S Sp N w)
 (gz:∀{A B C:World},Kp A B→Kp B C→Kp A C) (lM:∀(W:World)(l:Nat)(o o':Obj),w.heap.size≤l→W.heap[l]?=some o→o.isCells=false→o.isWalk=false→Kp W (W.putObj l o')) (hps:∀x,(ZI x).size=ps.size)
 (I:List α→World→Prop) (Ix:Code→List α→World→Prop) (hI:OwnFrom w.heap.size I) (gF:∀c,OwnFrom w.heap.size (Ix c)) (h0:I [] w) (Ax:α→Act→World→Prop) (gH:∀x a',OwnFrom w.heap.size (fun(_:Unit) W=>Ax x a' W))
 (FM:∀(l:Nat)(pre:List α)(x:α)(W:World)(K:Act→World→Prop),I pre W→R x W→Sp (pre++[x])→pre.length<N→(∀a' W',KeepsFrom w.heap.size W W'→Kp W W'→I pre W'→Ax x a' W'→K a' W')→
  assign.wpIn (Fence.wide.inRound l) (n-1-1) P (Exit.then K (fun _ _ _=>False)) { tmps:=(ps.zip (ZI x)).foldl (fun t (p,v)=>t.setIfInBounds p v) a.tmps,defers:=[] } W)
 (hbody:∀(l:Nat)(pre:List α)(x:α)(a':Act)(W:World),I pre W→Ax x a' W→Sp (pre++[x])→pre.length<N→body.wpIn (Fence.wide.inRound l) (n-1-1) P (ownPostG w.heap.size Kp I Ix (pre++[x]) W) a' W)
 (hdone:∀(D:Nat)(xs:List α)(W:World),w.heap.size≤D→S xs→I xs W→W.heap[D]?=some (.deferred (some []))→Q .normal { a with defers:={ target:=.collected D,args:=#[] }::a.defers } W)
 (kD:∀(D:Nat)(c:Code)(pre:List α)(W:World),w.heap.size≤D→Sp pre→Ix c pre W→W.heap[D]?=some (.deferred (some []))→c.wpIn Fence.wide n P Q { a with defers:={ target:=.collected D,args:=#[] }::a.defers } W) :
 (Code.rangeFunc g ps assign body).wpIn Fence.wide n P Q a w:=by
 refine wpIn_rangeFunc fun fn hfn=>?_
 generalize hB:w.heap.size=B at *;have eJ:(w.alloc (.deferred (some []))).heap.size=B+1:=by rw[World.size_alloc,hB]
 -- the block for the eT deferred calls (B) and the loop's record (B+1)
 have own:∀{st:LoopState}{pe:Option Code}{W:World},W.heap[B+1]?=some (.loop (recAt fn a ps assign body B st pe))→B+1<W.heap.size:=fun h=>(Array.getElem?_eq_some_iff.1 h).1
 have start:∃W1,(w.alloc (.deferred (some []))).alloc (.loop (recAt fn a ps assign body B .ready none))=W1∧Below B w W1∧W1.heap.size=B+2∧
  W1.heap[B+1]?=some (.loop (recAt fn a ps assign body B .ready none))∧W1.heap[B]?=some (.deferred (some []))∧I [] W1:=by
  refine⟨_,rfl,((Below.refl B w).alloc (Nat.le_of_eq hB.symm) _).alloc (by rw[eJ];omega) _,by rw[World.size_alloc,eJ],?_,?_,hI.alloc _ (hI.alloc _ h0)⟩
  ·have:=World.alloc_heap_new (w.alloc (.deferred (some []))) (.loop (recAt fn a ps assign body B .ready none));rwa[eJ]at this
  ·have:=World.alloc_heap_new w (.deferred (some []));rw[hB]at this;exact(Below.heap_alloc _ _ _ (by rw[eJ];omega)).trans this
 obtain⟨W1,hW1,hbW,hsz,hrec,hdef,hI1⟩:=start;have yg:∀{β:Type}{J:β→World→Prop},OwnFrom B J→∀(s:β)(X Y:World)(row:Option Nat),J s X→X.grownBy Y row→(∀r,row=some r→W1.heap.size≤r∧∃o:Obj,X.heap[r]?=some o∧o.isWalk=true)→J s Y:=fun hJ s X Y row hs hgr hr =>
  hJ s X Y row hs hgr fun r e=>by
   obtain⟨q1,o,q2,q3⟩:=hr r e;exact⟨ω,o,q2,Obj.not_cells_of_walk q3⟩
 have still:∀{X Y:World}{row:Option Nat}{k:Nat}{o:Obj},X.grownBy Y row→(∀r,row=some r→W1.heap.size≤r∧∃o:Obj,X.heap[r]?=some o∧o.isWalk=true)→X.heap[k]?=some o→o.isWalk=false→Y.heap[k]?=some o:=fun hgr hr hk hw =>
  (grownBy_keeps hgr (fun r e=>(hr r e).2) hk hw).trans hk
 rw[show Fence.wide.round=none from rfl];refine⟨B+1,[{ target:=.collected B,args:=#[] }],W1,{ target:=.fn (.func gf) lb,args:=#[.func (.yield (B+1)) #[] #[]] },W1,gf,#[.func (.yield (B+1)) #[] #[]]++lb,W1,?_,?_,fun f' _=>trivial,?_,fun _=>h1,?_⟩
 ·have:=run_enterLoop_outer (P:=P) (w:=w) fn a.tmps ps assign body;rw[←hW1];rw[hB]at this;exact this
 ·simp only[resolve,hg];simp[go_sem]
 ·simp[invoke,go_sem,eg]
 refine(hseq (B+1)
  (fun pre W=>I pre W∧W.heap[B+1]?=some (.loop (recAt fn a ps assign body B .ready none))∧W.heap[B]?=some (.deferred (some [])))
  (fun pre W=>∃c,Ix c pre W∧W.heap[B+1]?=some (.loop (recAt fn a ps assign body B .done (some c)))∧W.heap[B]?=some (.deferred (some [])))
  W1 (hB ▸ hbW)
  (fun s X Y row hs hgr hr=>⟨yg hI s X Y row hs.1 hgr hr,still hgr hr hs.2.1 rfl,still hgr hr hs.2.2 rfl⟩)
  (fun s X Y row hs hgr hr=>by
   obtain⟨c,q1,q2,q3⟩:=hs;exact⟨c,yg (gF c) s X Y row q1 hgr hr,still hgr hr q2 rfl,still hgr hr q3 rfl⟩)
  ?round ⟨hI1,hrec,hdef⟩).mono ?rest
 case round =>
  rintro pre x W ⟨hi,hl,hk⟩ hR hsp hlen;refine⟨fn,_,assign,body,run_yield (P:=P) (args:=ZI x) hl (hps x),roundIn_of_wpIn hfn (FM _ pre x W _ hi hR hsp hlen ?_)⟩;intro a' Wa FB Wv Oi cR;replace hl:=FB.same _ _ ω hl rfl;replace hk:=FB.same _ _ (Nat.le_refl _) hk rfl;replace hi:=Oi;clear Oi hR
  revert Wv FB
  generalize W=Wb;intro FB Wv;obtain⟨W,rfl⟩:∃W,W=Wa:=⟨_,rfl⟩;refine⟨_,run_beginRound hl rfl,?_⟩;have hlt:=own hl;have hl2:(W.putObj (B+1) (.loop (recAt fn a ps assign body B .busy none))).heap[B+1]?=some (.loop (recAt fn a ps assign body B .busy none)):=World.putObj_heap_same hlt;have hk2:(W.putObj (B+1) (.loop (recAt fn a ps assign body B .busy none))).heap[B]?=some (.deferred (some [])):=(World.putObj_heap_other ω).trans hk;refine wpIn_mono (hbody _ pre x a' _ (hI.putObj _ hi ω hl rfl) ((gH x a').putObj (s:=()) _ cR ω hl rfl) hsp hlen) fun e a3 W3 hp=>?_
  have Xj:∀(jump:Option Code),KeepsFrom B (W.putObj (B+1) (.loop (recAt fn a ps assign body B .busy none))) W3→
   (Instr.endRound (B+1) jump).run P W3=.ok (τ jump.isNone) (W3.putObj (B+1) (.loop (recAt fn a ps assign body B (if jump.isNone then .ready else .done) jump)))∧
   W3.heap[B+1]?=some (.loop (recAt fn a ps assign body B .busy none))∧
   (W3.putObj (B+1) (.loop (recAt fn a ps assign body B (if jump.isNone then .ready else .done) jump))).heap[B+1]?=some (.loop (recAt fn a ps assign body B (if jump.isNone then .ready else .done) jump))∧
   (W3.putObj (B+1) (.loop (recAt fn a ps assign body B (if jump.isNone then .ready else .done) jump))).heap[B]?=some (.deferred (some [])):=fun jump hk3=>by
   have lC:=hk3.same _ _ ω hl2 rfl;exact⟨run_endRound (P:=P) jump lC,lC,World.putObj_heap_same (own lC),(World.putObj_heap_other ω).trans (hk3.same _ _ (Nat.le_refl _) hk2 rfl)⟩
  have left:∀c:Code,KeepsFrom B (W.putObj (B+1) (.loop (recAt fn a ps assign body B .busy none))) W3→Ix c (pre++[x]) W3→
   ∃v W4,(Instr.endRound (B+1) (some c)).run P W3=.ok v W4∧
    ((ρ v=ρ (τ true)∧(I (pre++[x]) W4∧W4.heap[B+1]?=some (.loop (recAt fn a ps assign body B .ready none))∧W4.heap[B]?=some (.deferred (some [])))∧Kp Wb W4)∨
     (ρ v=ρ (τ false)∧∃c,Ix c (pre++[x]) W4∧W4.heap[B+1]?=some (.loop (recAt fn a ps assign body B .done (some c)))∧W4.heap[B]?=some (.deferred (some [])))):=fun c hk3 PL=>by
   obtain⟨q1,q2,q3,q4⟩:=Xj (some c) hk3;exact⟨_,_,q1,.inr ⟨rfl,c,(gF _).putObj _ PL ω q2 rfl,q3,q4⟩⟩
  cases e with
  |normal=>obtain⟨hk3,lD,PL⟩:=hp;obtain⟨q1,q2,q3,q4⟩:=Xj none hk3;exact⟨_,_,q1,.inl ⟨rfl,⟨hI.putObj _ PL ω q2 rfl,q3,q4⟩,gz (gz (gz Wv (lM _ _ _ _ ω hl rfl rfl)) lD) (lM _ _ _ _ ω q2 rfl rfl)⟩⟩
  |ret=>exact left .ret hp.1 hp.2
  |exit id=>exact left (.exit id) hp.1 hp.2
  |goto t=>exact left (.goto t) hp.1 hp.2
  |panic ch=>exact hp.elim
  |outgrown=>exact hp.elim
 case rest =>
  rintro e W2 ⟨⟨v,rfl⟩,(⟨xs,hS,hi,hl,hk⟩|⟨pre,hSp,c,hi,hl,hk⟩)⟩
  ·exact⟨none,_,run_endLoop (P:=P) hl (by simp[recAt]),hdone _ xs _ (Nat.le_refl _) hS (hI.putObj _ hi ω hl rfl) ((World.putObj_heap_other ω).trans hk)⟩
  ·exact⟨some c,_,run_endLoop (P:=P) hl (by simp[recAt]),kD _ c pre _ (Nat.le_refl _) hSp ((gF c).putObj _ hi ω hl rfl) ((World.putObj_heap_other ω).trans hk)⟩
theorem Qkx{α:Type}{g:Operand}{ps:Array Tmp}{assign body:Code}{Q:Exit→Act→World→Prop}{a:Act}{w:World}
 (h1:1≤n) {gf:Nat} {lb:Array Value} (hg:a.eval g=.func (.func gf) #[] lb) (eg:∀args w,(callFunc gf args).run P w=.ok (.enter gf args) w)
 {ZI:α→Array Value} {R:α→World→Prop} {Kp:World→World→Prop} {S Sp:List α→Prop} {N:Nat} (hseq:iP (n-1) P gf lb ZI R Kp S Sp N w)
 (gz:∀{A B C:World},Kp A B→Kp B C→Kp A C) (lM:∀(W:World)(l:Nat)(o o':Obj),w.heap.size≤l→W.heap[l]?=some o→o.isCells=false→o.isWalk=false→Kp W (W.putObj l o')) (hps:∀x,(ZI x).size=ps.size)
 (I:List α→World→Prop) (Ix:Code→List α→World→Prop) (J:World→Prop) (hI:OwnFrom w.heap.size I) (gF:∀c,OwnFrom w.heap.size (Ix c)) (h0:I [] w) (Ax:α→Nat→World→Prop) (gH:∀x b,OwnFrom w.heap.size (fun(_:Unit) W=>Ax x b W))
 (hd:∀ys W,S ys→I ys W→J W)
 (hs:∀c pre W,Sp pre→Ix c pre W→J W∧∀a',Q .normal a' W→c.wpIn Fence.wide n P Q a' W)
 (SU:∀(x:α)(b:Nat),∃a₁:Act,(∀(l:Nat)(pre:List α)(W:World)(K:Act→World→Prop),W.heap.size=b→I pre W→R x W→Sp (pre++[x])→pre.length<N→(∀W',KeepsFrom w.heap.size W W'→Kp W W'→I pre W'→Ax x b W'→K a₁ W')→
  assign.wpIn (Fence.wide.inRound l) (n-1-1) P (Exit.then K (fun _ _ _=>False)) { tmps:=(ps.zip (ZI x)).foldl (fun t (p,v)=>t.setIfInBounds p v) a.tmps,defers:=[] } W)∧
  (∀(l:Nat)(pre:List α)(W:World),I pre W→Ax x b W→Sp (pre++[x])→pre.length<N→body.wpIn (Fence.wide.inRound l) (n-1-1) P (ownPostG w.heap.size Kp I Ix (pre++[x]) W) a₁ W))
 (hrest:∀(D:Nat)(W:World),w.heap.size≤D→J W→W.heap[D]?=some (.deferred (some []))→Q .normal { a with defers:={ target:=.collected D,args:=#[] }::a.defers } W) :
 (Code.rangeFunc g ps assign body).wpIn Fence.wide n P Q a w :=
 Qid h1 hg eg hseq gz lM hps I Ix hI gF h0 (fun x a' W=>∃b,a'=(SU x b).choose∧Ax x b W)
  (fun x a' s X Y row hs hg hr=>by obtain⟨b,e,h⟩:=hs;exact⟨b,e,gH x b () X Y row h hg hr⟩)
  (fun l pre x W K hi hR hsp hlt hK=>(SU x W.heap.size).choose_spec.1 l pre W K rfl hi hR hsp hlt fun W' q1 q2 q3 q4=>hK _ W' q1 q2 q3 ⟨_,rfl,q4⟩)
  (fun l pre x a' W hi cR hsp hlt=>by obtain⟨b,rfl,h⟩:=cR;exact(SU x b).choose_spec.2 l pre W hi h hsp hlt)
  (fun D ys W hD hS hi hK=>hrest D W hD (hd ys W hS hi) hK) (fun D c pre W hD hS hi hK=>(hs c pre W hS hi).2 _ (hrest D W hD (hs c pre W hS hi).1 hK))
