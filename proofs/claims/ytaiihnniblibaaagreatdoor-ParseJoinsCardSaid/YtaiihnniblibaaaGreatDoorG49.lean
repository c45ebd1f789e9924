import Derived.Test.YtaiihnniblibaaaGreatDoorG46
import Derived.Test.YtaiihnniblibaaaGreatDoorG48
set_option linter.unusedVariables false
open Go.ChangeShapes Go.WideShapes Go.ChangeAt Go.RowKit
open _root_.Nat renaming le_refl→QH,lt_of_lt_of_le→JQ
open Go.Value renaming string→σ,int→ι,slice→ς,agg→ξ
open Go.IntKind renaming i64→κ
open Go.Obj renaming cells→θ
namespace Go.Proofs.YtaiihnniblibaaaGreatDoor
namespace JI
open Tree Mem KL QB
def NN(n:Nd):Bool:=!(n.k==2||n.k==3)
theorem rL{n:Nd}:NN n=true↔¬(n.k=2∨n.k=3):=by unfold NN;simp
def Pw(l:List Nd):List Nd:=l.filter NN
theorem G6:∀c:F,Z6 c=Vg (Pw (Kc c))
  | .nil=>rfl
  | .cons k x y c r=>by
    unfold Z6;rw[G6 r];by_cases h:k=2∨k=3
    ·have hd:NN ⟨k,x,y,c⟩=false:=by
        cases e:NN ⟨k,x,y,c⟩with
        |false=>rfl
        |true=>exact absurd h (rL.1 e)
     rw[if_pos h];unfold Pw;rw[Kc,List.filter_cons_of_neg (by rw[hd];simp)]
    ·have hd:NN ⟨k,x,y,c⟩=true:=rL.2 h;rw[if_neg h];unfold Pw;rw[Kc,List.filter_cons_of_pos hd];rfl
theorem Eg:∀c:F,(Kc c).length=c.len
  | .nil=>rfl
  | .cons k x y c r=>by rw[Kc,List.length_cons,Eg r];rfl
theorem tH:∀{c:F}{i:Nat}{k:Int}{x y:ByteArray}{kc r:F},c.drop i=.cons k x y kc r→(Kc c)[i]?=some ⟨k,x,y,kc⟩
  | .nil,i,_,_,_,_,_,h=>by rw[F.drop_nil]at h;cases h
  | .cons k' x' y' c' r',0,k,x,y,kc,r,h=>by
    simp only[F.drop,F.cons.injEq]at h;obtain⟨rfl,rfl,rfl,rfl,rfl⟩:=h;rfl
  | .cons k' x' y' c' r',i+1,k,x,y,kc,r,h=>by
    have:=tH (c:=r') (i:=i) h;simpa[Kc]using this
theorem xu:∀l m:List Nd,Vg (l++m)=Vi (Vg l) (Vg m)
  |[],m=>rfl
  |n::l,m=>by
   rw[List.cons_append,Vg,xu l m];rfl
theorem Qvx{l:List Nd}{i:Nat}{nd:Nd}(h:l[i]?=some nd):Pw (l.take (i+1))=Pw (l.take i)++(if NN nd=true then[nd]else[]):=by
  unfold Pw;rw[List.take_add_one,h,List.filter_append];cases hd:NN nd <;> simp[hd]
theorem oI(l:List Nd):(Pw l).length≤l.length:=List.length_filter_le ..
theorem td:∀(c:F),(∀j k x y kc r,c.drop j=.cons k x y kc r→k=8→y.toList=[])→(sT (Z6 c)).size≤(sT c).size
  | .nil,_=>QH _
  | .cons k x y c r,h=>by
    have h0:k=8→y.toList=[]:=h 0 k x y c r rfl;have ih:=td r fun j k' x' y' kc r' hd=>h (j+1) k' x' y' kc r' hd
    unfold Z6;rw[FH k x y c r h0,ByteArray.size_append];split
    ·omega
    ·rw[FH k x y c _ h0,ByteArray.size_append];omega
theorem mD:∀l:List Nd,Kc (Vg l)=l
  |[]=>rfl
  |n::l=>by
   show(⟨n.k,n.x,n.y,n.c⟩:Nd)::Kc (Vg l)=n::l;rw[mD l]
theorem Qnq(c:F):(Z6 c).len=(Pw (Kc c)).length:=by rw[G6,Gx]
theorem Qnp(c:F):Kc (Z6 c)=Pw (Kc c):=by rw[G6,mD]
theorem Yk:∀c:F,c.len≤c.size
  | .nil=>QH _
  | .cons k x y c r=>by
    have:=Yk r;simp only[F.len,F.size];omega
theorem Qv0{a b:List Int}(h:ZZ (a++b)):ZZ a:=fun x hx=>h x (List.mem_append_left _ hx)
theorem Qrc{a b:List Int}(h:ZZ (a++b)):ZZ b:=fun x hx=>h x (List.mem_append_right _ hx)
theorem Qqe{a b:List Int}(ha:ZZ a)(hb:ZZ b):Lex.nums (strOfNums a++strOfNums b)=a++b:=by
  have h1:Lex.nums (strOfNums a)=a:=Vz (Lex.Gy _) ha (Lex.Xo _);have h2:Lex.nums (strOfNums b)=b:=Vz (Lex.Gy _) hb (Lex.Xo _);have h3:Lex.nums (strOfNums a++strOfNums b)=Lex.nums (strOfNums a)++Lex.nums (strOfNums b):=by unfold Lex.nums;rw[ByteArray.data_append,Array.toList_append,List.map_append]
  rw[h3,h1,h2]
theorem lX{w:World}{S S':Nat→Prop}{v:Value}{L:List Nd}(h:QB.V7 w S v L)(hS:∀b,S b→S' b)(hg:∀g,v.ownBlock=some g→S' g):Fs w S' v (Vg L):=by
  obtain⟨ps,h1,ho,hf⟩:=h;rcases ho.2 with⟨rfl,h0⟩|⟨g,cap,cur,rfl,hg0,hg2,q1,q2,q3,q4⟩
  ·rw[List.eq_nil_of_length_eq_zero h0];exact⟨none,0,rfl,by omega⟩
  ·have e:Vg L=Vg (ps.map (·.1)):=by rw[h1]
   rw[e];have hc:=ho.cells (g:=g) rfl;have ad:∀j,(⟨g,0,none⟩:Addr).add j=⟨g,j,none⟩:=fun j=>by unfold Addr.add;split <;> simp_all
   refine U2 g (hg g rfl) ps 0 L.length cap (by rw[←h1];simp) q1 q2 (fun j u hu=>?_) (fun p hp=>(hf p hp).more hS) _ (.inr rfl);have:=hc j u hu;rwa[ad,←Nat.zero_add j]at this
theorem Qv9(w:World)(ty:TypeId)(S:Nat→Prop)(v:Value)(L:List Nd)(A:Option Addr)(n C:Nat)(c:F)(h1:QB.V7 w S v L)(h2:Fs w S (ς A n C) c)
    (hS:∀b,S b→b<w.heap.size∧some b≠v.ownBlock) (hlen:L.length+c.len≤1000000) :
    ∃v' w',(Builtin.append_ #[22,22] ty #[v,ς A n C]).run Tryz.prog w=.ok v' w'∧QB.V7 w' S v' (L++Kc c)∧w.grownBy w' v.ownBlock∧(v'.ownBlock=v.ownBlock∨v'.ownBlock=some w.heap.size):=by
  obtain⟨i0,hi0,hz0,hz1,hz2⟩:=zf;have hT:=Tryz.underlying22;cases c with
  |nil =>
   obtain⟨A',C',e,_⟩:=h2;injection e with e1 e2 e3;subst e1;subst e2;subst e3;refine⟨v,w,?_,by simpa[Kc]using h1,⟨rfl,rfl,rfl,QH _,fun _ _ _=>rfl⟩,.inl rfl⟩;obtain⟨ps,_,ho,_⟩:=h1;rcases ho.2 with⟨rfl,hh⟩|⟨g,cap,cur,rfl,_,_,hnc,_⟩
   ·cases A with
    |none=>simp[Builtin.append_,run_underlying hT,sizeOf,typeInfo,hi0,Builtin.lenOf,Builtin.firstCells]
    |some a=>simp[Builtin.append_,run_underlying hT,sizeOf,typeInfo,hi0,Builtin.lenOf,Builtin.firstCells,loadCells,loadCellsFrom]
   ·cases A with
    |none=>simp[Builtin.append_,run_underlying hT,sizeOf,typeInfo,hi0,Builtin.lenOf,Builtin.firstCells,hnc,storeCells]
    |some a=>simp[Builtin.append_,run_underlying hT,sizeOf,typeInfo,hi0,Builtin.lenOf,Builtin.firstCells,hnc,storeCells,loadCells,loadCellsFrom]
  |cons k x y kc r =>
   have hn:n=(F.cons k x y kc r).len:=Z5 h2;obtain⟨b,off,n',C',s,e,_⟩:=id h2;injection e with e1 e2 e3;subst e1;obtain⟨ps,iT,ho,hf⟩:=h1;obtain⟨Ma,p1,p2,p3,p4⟩:=zr h2;have hmul:(L.length+n)*64≤1000000*64:=Nat.mul_le_mul (by omega) (QH _)
   obtain⟨v',w',hrun,r1,r2,_,r3⟩:=run_append_own_at (P:=Tryz.prog) w 0 22 ty 24 i0 _ 4 64 hT hi0 hz0 hz1 hz2 rfl (by decide) v L.length _ ho ⟨b,off,none⟩ n C (Ma.flatMap Kz) (by rw[ZR.qX Y6,p2]) (fun j u hj=>by
     have ad:(⟨b,off,none⟩:Addr).add j=⟨b,off+j,none⟩:=by unfold Addr.add;split <;> simp_all
     rw[ad];exact p3 j u hj) (one_cell p4) (by unfold maxLen;omega) (by omega) (Nat.zero_le _)
   have hL2:(Kc (F.cons k x y kc r)).length=n:=by rw[Eg,hn]
   refine⟨v',w',hrun,⟨ps++Ma,by rw[List.map_append,iT,p1],?_,fun p hp=>?_⟩,r2,r3⟩
   ·rw[List.length_append,List.flatMap_append,hL2];exact r1
   rcases List.mem_append.1 hp with hp|hp
   ·exact(hf p hp).keep fun b hb=>r2.block b (hS b hb).1 (hS b hb).2
   ·exact(p4 p hp).keep fun b hb=>r2.block b (hS b hb).1 (hS b hb).2
theorem nC{P:Program}{o:Oper}{a:Act}{W W':World}{K:Act→World→Prop}{Q:Exit→Act→World→Prop}{s x:Operand}{t1 t2:TypeId}{vs vx v':Value}(ho:o.op=.call { callee:=.builtin .append,args:=#[s,x],argTypes:=#[t1,t2] })
    (hs:a.eval s=vs) (hx:a.eval x=vx) (hrun:(Builtin.append_ #[t1,t2] o.type #[vs,vx]).run P W=.ok v' W') (h:K (a.put o.dst v') W'):o.wp P a W K Q:=by
  unfold Oper.wp execOp;simp only[ho,resolve,invoke,builtin,Sem.run_bind,Sem.run_pure,Result.andThen_ok,List.map_toArray,List.map_cons,List.map_nil,hs,hx,hrun];exact h
def Hb(B:Nat)(W:World)(v:Value)(L:List Nd):Prop:=QB.V7 W (Lo B) v L∧∀g,v.ownBlock=some g→B≤g
theorem Hb.later{B:Nat}{W W':World}{v:Value}{L:List Nd}(h:Hb B W v L)(hb:Below W.heap.size W W')(hB:B≤W.heap.size):Hb B W' v L :=
  ⟨h.1.later hb fun b hb'=>JQ hb' hB,h.2⟩
theorem Hb.app{B:Nat}{W:World}{v:Value}{L:List Nd}{A:Option Addr}{n C:Nat}{c:F}(ty:TypeId)(h:Hb B W v L)(hB:B≤W.heap.size)(h2:Fs W (Lo B) (ς A n C) c)(hlen:L.length+c.len≤1000000) :
    ∃v' W',(Builtin.append_ #[22,22] ty #[v,ς A n C]).run Tryz.prog W=.ok v' W'∧Hb B W' v' (L++Kc c)∧Below B W W':=by
  obtain⟨v',W',hr,h3,h4,h5⟩:=Qv9 W ty (Lo B) v L A n C c h.1 h2 (fun b hb=>⟨JQ hb hB,fun e=>by have:=h.2 b e.symm;have hb:b<B:=hb;omega⟩) hlen;refine⟨v',W',hr,⟨h3,fun g hg=>?_⟩,QB.XB h4 hB fun g hg=>h.2 g hg⟩;rcases h5 with h5|h5
  ·exact h.2 g (h5 ▸ hg)
  ·rw[h5]at hg;injection hg with hg;omega
theorem Hb.new{B:Nat}{W:World}(hB:B≤W.heap.size):Hb B (W.alloc (θ #[] 24)) (ς (some ⟨W.heap.size,0,none⟩) 0 0) [] :=
  ⟨⟨[],rfl,⟨rfl,.inr ⟨W.heap.size,0,#[],rfl,Nat.zero_le _,heap_alloc_new W _,QH _,by unfold maxLen;omega,rfl,rfl⟩⟩,fun p hp=>by cases hp⟩,fun g hg=>by
    have hg:some W.heap.size=some g:=hg;injection hg with hg;omega⟩
theorem Q1d{ops:Array Oper}{rest:List Oper}{o:Oper}{a:Act}{Q:Exit→Act→World→Prop}{v:Value}(hgd:o.guard=none)(s x:Operand)(ho:o.op=.call { callee:=.builtin .append,args:=#[s,x],argTypes:=#[22,22] })
    (B:Nat) (W:World) (L:List Nd) (g:Nat) (nd:Nd) (A:Option Addr) (m C:Nat) (hg:g=W.heap.size) (hs:a.eval s=v) (hx:a.eval x=ς (some ⟨g,0,none⟩) 1 1) (h1:Hb B W v L) (hB:B≤W.heap.size) (h2:Fs W (Lo B) (ς A m C) nd.c) (hlen:L.length≤1000000)
    (h:∀v' W',Hb B W' v' (L++[nd])→Below B W W'→wpList Tryz.prog ops Q rest (a.put o.dst v') W') :
    wpList Tryz.prog ops Q (o::rest) a (W.alloc (θ #[ι κ nd.k,σ nd.x,σ nd.y,ς A m C] 24)):=by
  subst hg;have hb:=Qb W (θ #[ι κ nd.k,σ nd.x,σ nd.y,ς A m C] 24);have h1':=h1.later hb hB;have hc:(W.alloc (θ #[ι κ nd.k,σ nd.x,σ nd.y,ς A m C] 24)).cell? ⟨W.heap.size,0,none⟩=some (ι κ nd.k)∧(W.alloc (θ #[ι κ nd.k,σ nd.x,σ nd.y,ς A m C] 24)).cell? ⟨W.heap.size,1,none⟩=some (σ nd.x)∧(W.alloc (θ #[ι κ nd.k,σ nd.x,σ nd.y,ς A m C] 24)).cell? ⟨W.heap.size,2,none⟩=some (σ nd.y)∧(W.alloc (θ #[ι κ nd.k,σ nd.x,σ nd.y,ς A m C] 24)).cell? ⟨W.heap.size,3,none⟩=some (ς A m C):=Ug (heap_alloc_new W _);have eD:=Nat.le_trans hB hb.size;refine Qex hgd s x ho (Lo B) v L W.heap.size 1 nd (ς A m C) hs hx hc h1'.1 (h2.below hb hB) (fun b hb2=>⟨JQ hb2 eD,fun e=>by have:=h1'.2 b e.symm;have hb2:b<B:=hb2;omega⟩) (by omega) ?_;intro v' W' h3 h4 h5;refine h v' W' ⟨h3,fun g hg=>?_⟩ ((hb.mono hB).trans (QB.XB h4 eD fun g hg=>h1'.2 g hg));rcases h5 with h5|h5
  ·exact h1'.2 g (h5 ▸ hg)
  ·rw[h5]at hg;injection hg with hg;omega
structure JA(w0:World)(C:Nat→Option Value)(L0 L1:List Nd)(L:Nat→Bool)(x:Nat→Value)(W:World):Prop where
  KN:Below w0.heap.size w0 W
  kc:∀i v,C i=some v→L i=true→x i=v
  r7:L 7=true→L 10=false→Hb w0.heap.size W (x 7) []
  vv:L 10=true→L 12=false→Hb w0.heap.size W (x 10) L0
  vt:L 12=true→Hb w0.heap.size W (x 12) (L0++L1)
  k13:L 13=true→x 13=ξ #[ι κ 1,σ ⟨#[]⟩,σ ⟨#[]⟩,x 12]
  d10:L 10=true→L 7=true
  d12:L 12=true→L 10=true
  d13:L 13=true→L 12=true
section
variable {w0:World}{C:Nat→Option Value}{L0 L1:List Nd}{L:Nat→Bool}{x:Nat→Value}{W W':World}{v:Value}
theorem JA.start:JA W C L0 L1 (fun _=>false) x W :=
  ⟨Below.refl _ _,fun _ _ _ h=>(by cases h),fun h=>(by cases h),fun h=>(by cases h),fun h=>(by cases h),fun h=>(by cases h),fun h=>(by cases h),fun h=>(by cases h),fun h=>(by cases h)⟩
theorem Zw{i j:Nat}(h:j≠i):RM L i j=L j:=by unfold RM;rw[if_neg h]
theorem Xl{i j:Nat}(h:j≠i):Vf x i v j=x j:=by unfold Vf;rw[if_neg h]
theorem rF{i:Nat}:RM L i i=true:=by unfold RM;rw[if_pos rfl]
theorem AP{i:Nat}:Vf x i v i=v:=by unfold Vf;rw[if_pos rfl]
theorem JA.const(h:JA w0 C L0 L1 L x W)(hb:Below W.heap.size W W'){i:Nat}(hi:C i=some v)(h7:7≠i)(h10:10≠i)(h12:12≠i)(VQ:13≠i):JA w0 C L0 L1 (RM L i) (Vf x i v) W':=by
  have hB:=h.KN.size;refine⟨h.KN.trans (hb.mono hB),fun j u hj hl=>?_,?_,?_,?_,?_,?_,?_,?_⟩
  ·by_cases e:j=i
   ·subst e;rw[AP];exact Option.some.inj (hi.symm.trans hj)
   ·rw[Xl e];rw[Zw e]at hl;exact h.kc j u hj hl
  all_goals simp only[Zw h7,Zw h10,Zw h12,Zw VQ,Xl h7,Xl h10,Xl h12,Xl VQ]
  ·exact fun a b=>(h.r7 a b).later hb hB
  ·exact fun a b=>(h.vv a b).later hb hB
  ·exact fun a=>(h.vt a).later hb hB
  ·exact h.k13
  ·exact h.d10
  ·exact h.d12
  ·exact h.d13
theorem JA.WG(h:JA w0 C L0 L1 L x W){i:Nat}(hi:C i=none):∀j u,C j=some u→RM L i j=true→Vf x i v j=u:=fun j u hj hl=>by
  by_cases e:j=i
  ·subst e;rw[hi]at hj;cases hj
  ·rw[Xl e];rw[Zw e]at hl;exact h.kc j u hj hl
theorem JA.new(h:JA w0 C L0 L1 L x W)(hC:C 7=none)(hL:L 7=false)(hb:Below W.heap.size W W')(ho:Hb w0.heap.size W' v []):JA w0 C L0 L1 (RM L 7) (Vf x 7 v) W':=by
  have f10:L 10=false:=by cases e:L 10 with|false=>rfl|true=>rw[h.d10 e]at hL;cases hL
  have f12:L 12=false:=by cases e:L 12 with|false=>rfl|true=>rw[h.d12 e]at f10;cases f10
  have f13:L 13=false:=by cases e:L 13 with|false=>rfl|true=>rw[h.d13 e]at f12;cases f12
  refine⟨h.KN.trans (hb.mono h.KN.size),h.WG hC,fun _ _=>by rw[AP];exact ho,?_,?_,?_,?_,?_,?_⟩;all_goals simp only[Zw (show 10≠7 by decide),Zw (show 12≠7 by decide),Zw (show 13≠7 by decide),f10,f12,f13]
  all_goals intro q;cases q
theorem JA.OY(h:JA w0 C L0 L1 L x W)(hC:C 10=none)(hL:L 10=false)(h7:L 7=true)(hb:Below w0.heap.size W W')(ho:Hb w0.heap.size W' v L0):JA w0 C L0 L1 (RM L 10) (Vf x 10 v) W':=by
  have f12:L 12=false:=by cases e:L 12 with|false=>rfl|true=>rw[h.d12 e]at hL;cases hL
  have f13:L 13=false:=by cases e:L 13 with|false=>rfl|true=>rw[h.d13 e]at f12;cases f12
  refine⟨h.KN.trans hb,h.WG hC,fun _ q=>(by rw[rF]at q;cases q),fun _ _=>by rw[AP];exact ho,?_,?_,fun _=>by rw[Zw (show 7≠10 by decide)];exact h7,?_,?_⟩;all_goals simp only[Zw (show 12≠10 by decide),Zw (show 13≠10 by decide),f12,f13]
  all_goals intro q;cases q
theorem JA.OX(h:JA w0 C L0 L1 L x W)(hC:C 12=none)(hL:L 12=false)(h10:L 10=true)(hb:Below w0.heap.size W W')(ho:Hb w0.heap.size W' v (L0++L1)):JA w0 C L0 L1 (RM L 12) (Vf x 12 v) W':=by
  have f13:L 13=false:=by cases e:L 13 with|false=>rfl|true=>rw[h.d13 e]at hL;cases hL
  refine⟨h.KN.trans hb,h.WG hC,fun _ q=>?_,fun _ q=>(by rw[rF]at q;cases q),fun _=>by rw[AP];exact ho,?_,fun _=>?_,fun _=>?_,?_⟩
  ·rw[Zw (show 10≠12 by decide),h10]at q;cases q
  ·rw[Zw (show 13≠12 by decide),f13];intro q;cases q
  ·rw[Zw (show 7≠12 by decide)];exact h.d10 h10
  ·rw[Zw (show 10≠12 by decide)];exact h10
  ·rw[Zw (show 13≠12 by decide),f13];intro q;cases q
theorem JA.node(h:JA w0 C L0 L1 L x W)(hC:C 13=none)(h12:L 12=true)(hv:v=ξ #[ι κ 1,σ ⟨#[]⟩,σ ⟨#[]⟩,x 12]):JA w0 C L0 L1 (RM L 13) (Vf x 13 v) W:=by
  refine⟨h.KN,h.WG hC,?_,?_,?_,fun _=>?_,?_,?_,fun _=>?_⟩
  ·simp only[Zw (show 7≠13 by decide),Zw (show 10≠13 by decide),Xl (show 7≠13 by decide)];exact h.r7
  ·simp only[Zw (show 10≠13 by decide),Zw (show 12≠13 by decide),Xl (show 10≠13 by decide)];exact h.vv
  ·simp only[Zw (show 12≠13 by decide),Xl (show 12≠13 by decide)];exact h.vt
  ·rw[AP,Xl (show 12≠13 by decide)];exact hv
  ·simp only[Zw (show 10≠13 by decide),Zw (show 7≠13 by decide)];exact h.d10
  ·simp only[Zw (show 12≠13 by decide),Zw (show 10≠13 by decide)];exact h.d12
  ·rw[Zw (show 12≠13 by decide)];exact h12
end
