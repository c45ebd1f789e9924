import Derived.Test.YtmepekognmlblaaGreatDoorS22
import Derived.Test.YtmepekognmlblaaGreatDoorS23
set_option maxHeartbeats 16000000
set_option maxRecDepth 100000
set_option linter.unusedVariables false
open Go.Proofs.Tryz Go.ChangeShapes Go.WideShapes Go.ChangeAt Go.RowKit
open _root_.Nat renaming le_refl→QI,zero_add→ZL,lt_of_lt_of_le→VE,le_trans→QW,zero_le→ZR
open _root_.List renaming length_cons→GW,getElem?_append_right→GK,length_map→VD,getElem?_append_left→PX,setIfInBounds_toArray→ZC,set_cons_succ→ZA,set_cons_zero→QZ
open Go.RowKit.Below renaming refl→QE
open Go.Value renaming string→σ,int→ι,slice→ς,pointer→π,agg→ξ
open Go.IntKind renaming i64→γ
open Go.Obj renaming cells→θ
open Go.Ending renaming returned→ρ
namespace Go.Proofs.YtmepekognmlblaaGreatDoor
namespace Tree
open Mem
def YG:List Nd→F
 |[]=>.nil
 |nd::l=>.cons nd.k nd.x nd.y nd.c (YG l)
theorem rh:∀l:List Nd,(YG l).len=l.length
 |[]=>rfl
 |nd::l=>by simp only[YG,F.len,rh l,GW]
theorem Yf{w:World}{S:Nat→Prop}(g:Nat)(hg:S g):∀(ps:List (Nd×Value))(off n C:Nat),ps.length=n→n≤C→C≤9223372036854775807→(∀j u,(ps.flatMap VC)[j]?=some u→w.cell? ⟨g,off+j,none⟩=some u)→(∀p∈ps,Fs w S p.2 p.1.c)→
 ∀A,(n=0∨A=some ⟨g,off,none⟩)→Fs w S (ς A n C) (YG (ps.map (·.1)))
 |[],off,n,C,hl,hC,hm,hc,hf,A,hA=>by
  simp only[List.length_nil]at hl;subst hl;exact⟨A,C,rfl,hm⟩
 |p::ps,off,n,C,hl,hC,hm,hc,hf,A,hA=>by
  simp only[GW]at hl;subst hl;obtain⟨C',rfl⟩:∃C',C=C'+1:=⟨C-1,ω⟩;have hA':A=some ⟨g,off,none⟩:=hA.resolve_left ω;subst hA'
  have hj:∀j u,(VC p)[j]? = some u→w.cell? ⟨g,off+j,none⟩=some u:=fun j u hu=>hc j u (by
   rw[List.flatMap_cons,PX (by
    rcases Nat.lt_or_ge j (VC p).length with h' |h'
    ·exact h'
    ·rw[List.getElem?_eq_none h']at hu;cases hu)]
   exact hu)
  refine⟨g,off,ps.length,C',p.2,rfl,by rw[rh,VD],ω,hm,hg,hj 0 _ rfl,hj 1 _ rfl,hj 2 _ rfl,hj 3 _ rfl,hf p (List.mem_cons_self ..),fun A' hA'=>?_⟩;refine Yf g hg ps (off+4) ps.length C' rfl ω ω (fun j u hu=>?_) (fun q hq=>hf q (List.mem_cons_of_mem _ hq)) A' ?_
  ·rw[show off+4+j=off+(4+j)by omega];refine hc (4+j) u ?_;rw[List.flatMap_cons,GK (by rw[Vn];omega),Vn,show 4+j-4=j by omega];exact hu
  ·rcases hA' with h|h
   ·left
    have:(YG (ps.map (·.1))).len=ps.length:=by rw[rh,VD]
    rw[h]at this;exact this.symm
   ·exact .inr h
def KH:F→List Nd
 | .nil=>[]
 | .cons k x y c r=>⟨k,x,y,c⟩::KH r
theorem Ul:∀f:F,(KH f).length=f.len
 | .nil=>rfl
 | .cons k x y c r=>by simp only[KH,GW,F.len,Ul r]
theorem yK:∀f:F,YG (KH f)=f
 | .nil=>rfl
 | .cons k x y c r=>by simp only[KH,YG,yK r]
theorem Qdn:∀(l:List Nd)(f:F),YG (l++KH f)=l.foldr (fun nd g => .cons nd.k nd.x nd.y nd.c g) f
 |[],f=>by simp[yK]
 |nd::l,f=>by simp only[List.cons_append,YG,Qdn l f,List.foldr_cons]
theorem Ġ{w:World}{S:Nat→Prop}:∀{f:F}{b off n C:Nat},Fs w S (ς (some ⟨b,off,none⟩) n C) f→
 ∃ps:List (Nd×Value),ps.map (·.1)=KH f∧ps.length=n∧(∀j u,(ps.flatMap VC)[j]?=some u→w.cell? ⟨b,off+j,none⟩=some u)∧∀p∈ps,Fs w S p.2 p.1.c
 | .nil,b,off,n,C,⟨A,C',e,_⟩=>by
   injection e with _ e2 _;subst e2;exact⟨[],rfl,rfl,fun j u hu=>by simp at hu,fun p hp=>by cases hp⟩
 | .cons k x y c r,b,off,n,C,⟨b',Ni,n',C',s,e,h1,h2,h3,hS,c0,c1,c2,c3,hk,hr⟩=>by
   injection e with e1 e2 e3;injection e1 with e1;injection e1 with e4 e5;subst e4;subst e5;subst e2;subst e3;obtain⟨ps,p1,p2,p3,p4⟩:=Ġ (hr (some ⟨b,off+4,none⟩) (.inr rfl));refine⟨(⟨k,x,y,c⟩,s)::ps,by rw[List.map_cons,p1];rfl,by rw[GW,p2],fun j u hu=>?_,fun p hp=>?_⟩
   ·rw[List.flatMap_cons]at hu;by_cases hj:j<4
    ·rw[PX (by rw[Vn];exact hj)]at hu
     match j,hj,hu with
     |0,_,hu=>cases hu;exact c0
     |1,_,hu=>cases hu;exact c1
     |2,_,hu=>cases hu;exact c2
     |3,_,hu=>cases hu;exact c3
    ·rw[GK (by rw[Vn];omega),Vn]at hu;have:=p3 (j-4) u hu;rwa[show off+4+(j-4)=off+j by omega]at this
   ·rcases List.mem_cons.1 hp with rfl|hp
    ·exact hk
    ·exact p4 p hp
theorem Qu1{w:World}{S:Nat→Prop}{B base:Nat}{v:Value}{L:List Nd}(h:K3 w B base v L)(hB:∀b,b<B→S b)(hS:∀g,base≤g→g<w.heap.size→S g):Fs w S v (YG L):=by
 obtain⟨ps,h1,ho,hf⟩:=h;rcases ho.2 with⟨rfl,h0⟩|⟨g,cap,cur,rfl,hg0,hg,q1,q2,q3,q4⟩
 ·exact c103
 ·have e:YG L=YG (ps.map (·.1)):=by rw[h1]
  rw[e];have hc:=ho.cells (g:=g) rfl;have ad:∀j,(⟨g,0,none⟩:Addr).add j=⟨g,j,none⟩:=fun j=>by unfold Addr.add;split <;> simp_all
  refine Yf g (hS g hg0 (lt_of_block hg)) ps 0 L.length cap (by rw[←h1];simp) q1 q2 (fun j u hu=>?_) (fun p hp=>(hf p hp).more hB) _ (.inr rfl);have:=hc j u hu;rwa[ad,←ZL j]at this
theorem Vr(w:World)(g b:Nat)(v0 v1 v2 v3:Value)(h:b≠g):((((w.setCell ⟨g,0,none⟩ v0).setCell ⟨g,1,none⟩ v1).setCell ⟨g,2,none⟩ v2).setCell ⟨g,3,none⟩ v3).heap[b]?=w.heap[b]?:=by
 rw[Below.heap_setCell _ _ _ _ h,Below.heap_setCell _ _ _ _ h,Below.heap_setCell _ _ _ _ h,Below.heap_setCell _ _ _ _ h]
theorem Î(w:World){ops:Array Oper}{rest:List Oper}{o:Oper}{a:Act}{Q:Exit→Act→World→Prop}(hgd:o.guard=none)(s x:Operand)
 (ho:o.op=.call { callee:=.builtin .append,args:=#[s,x],argTypes:=#[22,22] }) (B base:Nat) (v:Value) (L1:List Nd) (f:F) (b off m c:Nat) (hs:a.eval s=v) (hx:a.eval x=ς (some ⟨b,off,none⟩) m c)
 (h1:K3 w B base v L1) (h2:Fs w (Lo B) (ς (some ⟨b,off,none⟩) m c) f) (hB:B≤base) (hbase:base≤w.heap.size) (hlen:L1.length+m≤1000000)
 (h:∀v' w',K3 w' B base v' (L1++KH f)→Below base w w'→wpList prog ops Q rest (a.put o.dst v') w'):wpList prog ops Q (o::rest) a w:=by
 obtain⟨i0,hi0,hz0,hz1,hz2⟩:=info_parts Jz;obtain⟨jE,e1,XD,Pe⟩:=h1;obtain⟨jD,e2,hl2,hc2,hf2⟩:=Ġ h2;have ad:∀j,(⟨b,off,none⟩:Addr).add j=⟨b,off+j,none⟩:=fun j=>by unfold Addr.add;split <;> simp_all
 have Db:(KH f).length=m:=by rw[←e2,VD,hl2]
 refine wpList_append_own_at (P:=prog) w hgd s x 22 ho base 24 i0 (ξ #[ι γ 0,σ ⟨#[]⟩,σ ⟨#[]⟩,ς none 0 0]) 4 64 underlying22 hi0 hz0 hz1 hz2 rfl δ v L1.length _ hs XD ⟨b,off,none⟩ m c (jD.flatMap VC) hx (by rw[Lm.rE Vn,hl2]) (fun j u hu=>by rw[ad];exact hc2 j u hu) (Ĕ hf2) (by unfold maxLen;omega) ω hbase fun v' w' r1 r2 _ _=>?_
 have hbl:Below base w w':=(Below.refl _ _).grown r2 hbase (fun k hk=>(XD.lt k hk).1);refine h v' w' ⟨jE++jD,by rw[List.map_append,e1,e2],by rw[List.flatMap_append,List.length_append,Db];exact r1,fun p hp=>?_⟩ hbl;rcases List.mem_append.1 hp with hp|hp
 ·exact(Pe p hp).below hbl hB
 ·exact(hf2 p hp).below hbl hB
def Xp(w:World)(v:Value)(k:Int)(x:ByteArray)(c:F):Prop:=∃A n C,v=ξ #[ι γ k,σ x,σ ⟨#[]⟩,ς A n C]∧Fs w (Lo w.heap.size) (ς A n C) c
theorem Xp.later{w w':World}{v:Value}{k:Int}{x:ByteArray}{c:F}(h:Xp w v k x c)(hb:Below w.heap.size w w'):Xp w' v k x c:=by
 obtain⟨A,n,C,e,hf⟩:=h;exact⟨A,n,C,e,hf.later hb⟩
theorem pY:(prog.info? 24).map (·.size)=some 4:=χ
theorem V6(w:World)(S:Nat→Prop):Fs w S (ς none 0 0) .nil:=⟨none,0,rfl,ω⟩
theorem Q0l(w:World)(o1 o2 o3:Obj):(((w.alloc o1).alloc o2).alloc o3).heap[w.heap.size+1]?=some o2:=by
 have e:w.heap.size+1=(w.alloc o1).heap.size:=ψ
 rw[Below.heap_alloc _ _ _ ψ,e,heap_alloc_new]
theorem Å(w:World)(o1 o2 o3:Obj):Below w.heap.size w (((w.alloc o1).alloc o2).alloc o3):=(Qt w o1 o2).trans ((Qa _ _).mono (Qt w o1 o2).size)
theorem Ê(W:World)(k1 k2:Int)(x1 x2:ByteArray)(A1 A2:Option Addr)(n1 C1 n2 C2:Nat)(c1 c2:F)(h1:Fs W (Lo W.heap.size) (ς A1 n1 C1) c1)(h2:Fs W (Lo W.heap.size) (ς A2 n2 C2) c2) :
 Fs (W.alloc (θ #[ι γ k1,σ x1,σ ⟨#[]⟩,ς A1 n1 C1,ι γ k2,σ x2,σ ⟨#[]⟩,ς A2 n2 C2] 24)) (Lo (W.heap.size+1)) (ς (some ⟨W.heap.size,0,none⟩) 2 2) (.cons k1 x1 ⟨#[]⟩ c1 (.cons k2 x2 ⟨#[]⟩ c2 .nil)):=by
 have hb:=Qa W (θ #[ι γ k1,σ x1,σ ⟨#[]⟩,ς A1 n1 C1,ι γ k2,σ x2,σ ⟨#[]⟩,ς A2 n2 C2] 24);refine Yf W.heap.size (by show _<_;omega) [(⟨k1,x1,⟨#[]⟩,c1⟩,ς A1 n1 C1),(⟨k2,x2,⟨#[]⟩,c2⟩,ς A2 n2 C2)] 0 2 2 rfl (QI _) ω (fun j u hu=>?_) (fun p hp=>?_) _ (.inr rfl)
 ·rw[ZL,World.cell?_alloc_at _ _ _ _ rfl];simpa[VC]using hu
 ·simp only[List.mem_cons,List.not_mem_nil,or_false]at hp;rcases hp with rfl|rfl
  ·exact(h1.below hb (QI _)).up (Nat.le_succ _)
  ·exact(h2.below hb (QI _)).up (Nat.le_succ _)
theorem Qy0(W:World)(k1:Int)(x1:ByteArray)(A1:Option Addr)(n1 C1:Nat)(c1:F)(h1:Fs W (Lo W.heap.size) (ς A1 n1 C1) c1) :
 Fs (W.alloc (θ #[ι γ k1,σ x1,σ ⟨#[]⟩,ς A1 n1 C1] 24)) (Lo (W.heap.size+1)) (ς (some ⟨W.heap.size,0,none⟩) 1 1) (.cons k1 x1 ⟨#[]⟩ c1 .nil):=by
 have hb:=Qa W (θ #[ι γ k1,σ x1,σ ⟨#[]⟩,ς A1 n1 C1] 24);refine Yf W.heap.size (by show _<_;omega) [(⟨k1,x1,⟨#[]⟩,c1⟩,ς A1 n1 C1)] 0 1 1 rfl (QI _) ω (fun j u hu=>?_) (fun p hp=>?_) _ (.inr rfl)
 ·rw[ZL,World.cell?_alloc_at _ _ _ _ rfl];simpa[VC]using hu
 ·simp only[List.mem_singleton]at hp;subst hp;exact(h1.below hb (QI _)).up (Nat.le_succ _)
theorem Kw(s:ByteArray)(k1:Int)(x1:ByteArray)(A1:Option Addr)(n1 C1:Nat)(c1:F)(w:World)(h1:Fs w (Lo w.heap.size) (ς A1 n1 C1) c1) :
 Calls prog 24 #[σ s,ξ #[ι γ k1,σ x1,σ ⟨#[]⟩,ς A1 n1 C1]] w fun e w'=>Below w.heap.size w w'∧∃v,e=ρ v∧Xp w' v 4 s (.cons k1 x1 ⟨#[]⟩ c1 .nil):=by
 go_enter func24,ntmps24;go_wp2;refine bodyPost_ret (results_cell_row rfl _ _ (w.heap.size+1) 24 _ (0,0) _ rfl (Q0l _ _ _ _) underlying24 rfl pY) rfl ?_;have b2:=Qt w (θ #[ι γ k1,σ x1,σ ⟨#[]⟩,ς A1 n1 C1] 24) (θ #[ι γ 4,σ s,σ ⟨#[]⟩,ς (some ⟨w.heap.size+1+1,0,none⟩) 1 1] 24);have hf:=Qy0 _ k1 x1 A1 n1 C1 c1 (h1.later b2);refine⟨b2.trans ((Qa _ _).mono b2.size),_,rfl,some ⟨w.heap.size+1+1,0,none⟩,1,1,rfl,?_⟩;simp only[World.size_alloc]at hf⊢;exact hf
theorem Qbz(g n:Nat)(c:F)(w:World)(hn:n≤100000)(hf:Fs w (Lo w.heap.size) (ς (some ⟨g,0,none⟩) n n) c) :
 Calls prog 23 #[ς (some ⟨g,0,none⟩) n n] w fun e w'=>Below w.heap.size w w'∧∃v,e=ρ v∧Xp w' v 1 ⟨#[]⟩ (.cons 2 ⟨#[112]⟩ ⟨#[]⟩ .nil c):=by
 have b1:=Qa w (θ #[ι γ 0,σ ⟨#[]⟩,σ ⟨#[]⟩,ς none 0 0] 24);have hown:=Ĳ (w.alloc (θ #[ι γ 0,σ ⟨#[]⟩,σ ⟨#[]⟩,ς none 0 0] 24)) w.heap.size ⟨2,⟨#[112]⟩,⟨#[]⟩,.nil⟩ (ς none 0 0) (V6 _ _) b1.size;have b2:=Qa (w.alloc (θ #[ι γ 0,σ ⟨#[]⟩,σ ⟨#[]⟩,ς none 0 0] 24)) (θ #[ι γ 2,σ ⟨#[112]⟩,σ ⟨#[]⟩,ς none 0 0] 24);have UC:=b1.trans (b2.mono b1.size);have SG:=Lib.hid (hf.below UC (QI _));have e1:(w.alloc (θ #[ι γ 0,σ ⟨#[]⟩,σ ⟨#[]⟩,ς none 0 0] 24)).heap.size=w.heap.size+1:=ψ
 rw[e1]at hown;have HO:=Lib.hid hown;have HB:=Lib.hid UC;have KB:Hid (Boxed ((w.alloc (θ #[ι γ 0,σ ⟨#[]⟩,σ ⟨#[]⟩,ς none 0 0] 24)).alloc (θ #[ι γ 2,σ ⟨#[112]⟩,σ ⟨#[]⟩,ς none 0 0] 24)) w.heap.size 0 ⟨#[]⟩ ⟨#[]⟩ (ς none 0 0)):=(Vc w _ _ _ _).below b2 ψ;have XO:Hid (w.heap.size+1≤((w.alloc (θ #[ι γ 0,σ ⟨#[]⟩,σ ⟨#[]⟩,ς none 0 0] 24)).alloc (θ #[ι γ 2,σ ⟨#[112]⟩,σ ⟨#[]⟩,ς none 0 0] 24)).heap.size):=by show _≤_;simp
 clear hf b1 b2 UC hown;go_enter func23,ntmps23;go_wp2_with (at_builtin;refine Î _ rfl _ _ rfl w.heap.size (w.heap.size+1) _ [⟨2,⟨#[112]⟩,⟨#[]⟩,.nil⟩] c g 0 n n rfl rfl HO.out SG.out (Nat.le_succ _) XO.out ?_ ?_)
 ·show 1+n≤_;omega
 intro v3 w3 UY hb3;obtain⟨a3,c3,rfl,hc3,WM⟩:=UY.slice;have QP:=Lib.hid (Qu1 (S:=fun b=>b≠w.heap.size∧b<w3.heap.size) UY (fun b hb=>⟨ω,by have:=HB.out.size;have:=hb3.size;omega⟩) (fun g hg hg2=>⟨ω,hg2⟩));have VG:=Lib.hid (KB.out.below hb3 (Nat.lt_succ_self _));have UQ:=Lib.hid (HB.out.trans (hb3.mono (Nat.le_succ _)));obtain⟨z0,z1,z2,z3⟩:=JO VG.out;obtain⟨y0,y1,y2,y3⟩:=VG.out.cells;clear UY hb3 hc3 WM;go_wp2;refine bodyPost_ret (results_cell_row rfl _ _ w.heap.size 24 _ (0,0) _ rfl (X3 VG.out) underlying24 rfl pY) rfl ?_;have hbb:=Ji w3 w.heap.size (ι γ 1) (σ ⟨#[]⟩) (σ ⟨#[]⟩) (ς a3 ([⟨2,⟨#[112]⟩,⟨#[]⟩,.nil⟩]++KH c:List Nd).length c3);refine⟨UQ.out.trans hbb,_,rfl,a3,_,c3,rfl,?_⟩;have e:YG ([⟨2,⟨#[112]⟩,⟨#[]⟩,.nil⟩]++KH c)=.cons 2 ⟨#[112]⟩ ⟨#[]⟩ .nil c:=by rw[Qdn];rfl
 rw[←e];exact(QP.out.keep fun b hb=>Vr _ _ _ _ _ _ _ hb.1).more fun b hb=>Nat.lt_of_lt_of_le hb.2 hbb.size
def Zs(w:World)(S:Nat→Prop)(v:Value)(L:List Nd):Prop :=
 ∃ps:List (Nd×Value),ps.map (·.1)=L∧w.ownsRow 0 24 4 v L.length (ps.flatMap VC)∧∀p∈ps,Fs w S p.2 p.1.c
theorem Zs.nil(w:World)(S:Nat→Prop):Zs w S (ς none 0 0) []:=⟨[],rfl,World.ownsRow_nil _ _ _ _,fun p hp=>by cases hp⟩
theorem Zs.slice{w:World}{S:Nat→Prop}{v:Value}{L:List Nd}(h:Zs w S v L):∃a c,v=ς a L.length c∧L.length≤c∧c≤maxLen:=by
 obtain⟨ps,_,ho,_⟩:=h;exact Q0 ho
theorem Zs.lt{w:World}{S:Nat→Prop}{v:Value}{L:List Nd}(h:Zs w S v L){g:Nat}(hg:v.ownBlock=some g):g<w.heap.size:=by
 obtain⟨ps,_,ho,_⟩:=h;exact(ho.lt g hg).2
theorem Zs.grown{w w':World}{S:Nat→Prop}{v:Value}{L:List Nd}{row:Option Nat}(h:Zs w S v L)(hg:w.grownBy w' row)(hne:v.ownBlock=none∨v.ownBlock≠row)(hS:∀b,S b→b<w.heap.size∧some b≠row):Zs w' S v L:=by
 obtain⟨ps,e,ho,hf⟩:=h;exact⟨ps,e,ho.kept hg hne,fun p hp=>(hf p hp).keep fun b hb=>hg.block b (hS b hb).1 (hS b hb).2⟩
theorem Zs.more{w:World}{S S':Nat→Prop}{v:Value}{L:List Nd}(h:Zs w S v L)(hS:∀b,S b→S' b):Zs w S' v L:=by
 obtain⟨ps,e,ho,hf⟩:=h;exact⟨ps,e,ho,fun p hp=>(hf p hp).more hS⟩
theorem Jh{w w':World}(h:Below w.heap.size w w')(row:Option Nat):w.grownBy w' row:=⟨h.os,h.tape,h.output,h.size,fun k hk _=>h.block k hk⟩
theorem UL{w w':World}{B:Nat}{row:Option Nat}(h:w.grownBy w' row)(hB:B≤w.heap.size)(hr:∀k,row=some k→B≤k):Below B w w' :=
 ⟨h.os,h.tape,h.output,h.size,fun k hk=>h.block k (Nat.lt_of_lt_of_le hk hB) (fun e=>by have:=hr k e.symm;omega)⟩
theorem Zs.later{w w':World}{S:Nat→Prop}{v:Value}{L:List Nd}(h:Zs w S v L)(hb:Below w.heap.size w w')(hS:∀b,S b→b<w.heap.size):Zs w' S v L:=by
 cases hv:v.ownBlock with
 |none=>exact h.grown (Jh hb none) (.inl hv) (fun b FK=>⟨hS b FK,ψ⟩)
 |some g=>exact h.grown (Jh hb none) (.inr (by simp[hv])) (fun b FK=>⟨hS b FK,ψ⟩)
theorem Zs.fs{w:World}{S S':Nat→Prop}{v:Value}{L:List Nd}(h:Zs w S v L)(hS:∀b,S b→S' b)(hg:∀g,v.ownBlock=some g→S' g):Fs w S' v (YG L):=by
 obtain⟨ps,h1,ho,hf⟩:=h;rcases ho.2 with⟨rfl,h0⟩|⟨g,cap,cur,rfl,hg0,hg2,q1,q2,q3,q4⟩
 ·exact c103
 ·have e:YG L=YG (ps.map (·.1)):=by rw[h1]
  rw[e];have hc:=ho.cells (g:=g) rfl;have ad:∀j,(⟨g,0,none⟩:Addr).add j=⟨g,j,none⟩:=fun j=>by unfold Addr.add;split <;> simp_all
  refine Yf g (hg g rfl) ps 0 L.length cap (by rw[←h1];simp) q1 q2 (fun j u hu=>?_) (fun p hp=>(hf p hp).more hS) _ (.inr rfl);have:=hc j u hu;rwa[ad,←Nat.zero_add j]at this
theorem Qh6(w:World)(ty:TypeId)(S:Nat→Prop)(v:Value)(L:List Nd)(b c:Nat)(nd:Nd)(s:Value)
 (hc:w.cell? ⟨b,0,none⟩=some (ι γ nd.k)∧w.cell? ⟨b,1,none⟩=some (σ nd.x)∧w.cell? ⟨b,2,none⟩=some (σ nd.y)∧w.cell? ⟨b,3,none⟩=some s) (h1:Zs w S v L) (h2:Fs w S s nd.c)
 (hS:∀b,S b→b<w.heap.size∧some b≠v.ownBlock) (hlen:L.length≤1000000) :
 ∃v' w',(Builtin.append_ #[22,22] ty #[v,ς (some ⟨b,0,none⟩) 1 c]).run Tryz.prog w=.ok v' w'∧Zs w' S v' (L++[nd])∧w.grownBy w' v.ownBlock∧(v'.ownBlock=v.ownBlock∨v'.ownBlock=some w.heap.size):=by
 obtain⟨i0,hi0,hz0,hz1,hz2⟩:=info_parts Jz;obtain⟨ps,e1,ho,hf⟩:=h1;obtain⟨A2,C2,e2,_,_⟩:=h2.slice;have hmul:(L.length+1)*64≤1000001*64:=Nat.mul_le_mul ω (Nat.le_refl _)
 obtain⟨v',w',hrun,r1,r2,_,r3⟩:=run_append_own_at (P:=Tryz.prog) w 0 22 ty 24 i0 _ 4 64 Tryz.underlying22 hi0 hz0 hz1 hz2 rfl δ v L.length _ ho ⟨b,0,none⟩ 1 c (VC (nd,s)) rfl (fun j u hj=>by
  have ad:(⟨b,0,none⟩:Addr).add j=⟨b,j,none⟩:=by unfold Addr.add;split <;> simp_all
  rw[ad]
  match j,hj with
  |0,hj=>simp[VC]at hj;rw[←hj];exact hc.1
  |1,hj=>simp[VC]at hj;rw[←hj];exact hc.2.1
  |2,hj=>simp[VC]at hj;rw[←hj];exact hc.2.2.1
  |3,hj=>simp[VC]at hj;rw[←hj];exact hc.2.2.2
  |j+4,hj=>simp[VC]at hj) (by intro u hu;simp[VC]at hu;rcases hu with rfl|rfl|rfl|rfl <;> first|rfl|(rw[e2];rfl)) (by unfold maxLen;omega) ω (Nat.zero_le _)
 refine⟨v',w',hrun,⟨ps++[(nd,s)],by rw[List.map_append,e1];rfl,by rw[List.length_append,List.flatMap_append];simpa using r1,fun p hp=>?_⟩,r2,r3⟩;rcases List.mem_append.1 hp with hp|hp
 ·exact(hf p hp).keep fun b hb=>r2.block b (hS b hb).1 (hS b hb).2
 ·simp only[List.mem_singleton]at hp;subst hp;exact h2.keep fun b hb=>r2.block b (hS b hb).1 (hS b hb).2
theorem Eg{o:Oper}{a:Act}{w:World}{K:Act→World→Prop}{Q:Exit→Act→World→Prop}(s x:Operand)
 (ho:o.op=.call { callee:=.builtin .append,args:=#[s,x],argTypes:=#[22,22] }) (S:Nat→Prop) (v:Value) (L:List Nd) (b c:Nat) (nd:Nd) (sv:Value) (hs:a.eval s=v) (hx:a.eval x=ς (some ⟨b,0,none⟩) 1 c)
 (hc:w.cell? ⟨b,0,none⟩=some (ι γ nd.k)∧w.cell? ⟨b,1,none⟩=some (σ nd.x)∧w.cell? ⟨b,2,none⟩=some (σ nd.y)∧w.cell? ⟨b,3,none⟩=some sv) (h1:Zs w S v L) (h2:Fs w S sv nd.c)
 (hS:∀b,S b→b<w.heap.size∧some b≠v.ownBlock) (hlen:L.length≤1000000)
 (hK:∀v' w',Zs w' S v' (L++[nd])→w.grownBy w' v.ownBlock→(v'.ownBlock=v.ownBlock∨v'.ownBlock=some w.heap.size)→K (a.put o.dst v') w'):Oper.wp Tryz.prog o a w K Q:=by
 obtain⟨v',w',hrun,r1,r2,r3⟩:=Qh6 w o.type S v L b c nd sv hc h1 h2 hS hlen;unfold Oper.wp;simp[execOp,ho,resolve,invoke,builtin,hs,hx,hrun,Result.andThen];exact hK v' w' r1 r2 r3
def Ll(B:Nat)(W:World):Nat→Prop:=fun b=>B≤b∧b<W.heap.size
theorem Uq{B:Nat}{W W':World}{v:Value}{f:F}(h:Fs W (Ll B W) v f)(hb:Below W.heap.size W W'):Fs W' (Ll B W') v f :=
 (h.keep fun b hb'=>hb.block b hb'.2).more fun b hb'=>⟨hb'.1,VE hb'.2 hb.size⟩
def CS(w W:World)(v:Value):Nat→Prop:=fun b=>w.heap.size+3≤b∧b<W.heap.size∧some b≠v.ownBlock
structure Ss(w W:World)(k:Int)(x y:ByteArray)(A:Option Addr)(n C:Nat)(vb v:Value)(L:List Nd):Prop where
 QF:Below w.heap.size w W
 b1:Boxed W w.heap.size k x y (ς A n C)
 b2:Boxed W (w.heap.size+1) 0 ⟨#[]⟩ ⟨#[]⟩ (ς none 0 0)
 b3:Boxed W (w.heap.size+2) k x y vb
 o:Zs W (CS w W v) v L
 d:∀g,v.ownBlock=some g→w.heap.size+3≤g
theorem Uo(w:World)(g i:Nat)(v:Value):w.grownBy (w.setCell ⟨g,i,none⟩ v) (some g):=by
 have h:=(QE 0 w).setCell (p:=⟨g,i,none⟩) (ZR _) v;refine⟨h.os,h.tape,h.output,h.size,fun k _ hne=>?_⟩;exact Below.heap_setCell _ _ _ _ (fun e=>hne (by rw[e]))
section
variable {w W W':World}{k:Int}{x y:ByteArray}{A:Option Addr}{n C:Nat}{vb v v':Value}{L:List Nd}{nd:Nd}
theorem Ss.sS(h:Ss w W k x y A n C vb v L):∀b,CS w W v b→b<W.heap.size∧some b≠v.ownBlock:=fun b hb=>⟨hb.2.1,hb.2.2⟩
theorem Ss.later(h:Ss w W k x y A n C vb v L)(hb:Below W.heap.size W W'):Ss w W' k x y A n C vb v L :=
 ⟨h.QF.trans (hb.mono h.QF.size),h.b1.below hb h.b1.lt,h.b2.below hb h.b2.lt,h.b3.below hb h.b3.lt,(h.o.later hb fun b hb'=>hb'.2.1).more fun b hb'=>⟨hb'.1,VE hb'.2.1 hb.size,hb'.2.2⟩,h.d⟩
theorem Ss.app(h:Ss w W k x y A n C vb v L)(ho:Zs W' (CS w W v) v' (L++[nd]))(hg:W.grownBy W' v.ownBlock)(hv:v'.ownBlock=v.ownBlock∨v'.ownBlock=some W.heap.size):Ss w W' k x y A n C vb v' (L++[nd]):=by
 have q1:=h.b1.lt;have q2:=h.b2.lt;have q3:=h.b3.lt;refine⟨h.QF.trans (UL hg h.QF.size fun g e=>QW ω (h.d g e)),(hg.block _ q1 fun e=>by have:=h.d _ e.symm;omega).trans h.b1,(hg.block _ q2 fun e=>by have:=h.d _ e.symm;omega).trans h.b2,(hg.block _ q3 fun e=>by have:=h.d _ e.symm;omega).trans h.b3,ho.more fun b hb=>⟨hb.1,VE hb.2.1 hg.size,fun e=>?_⟩,fun g e=>?_⟩
 ·rcases hv with hv|hv
  ·exact hb.2.2 (e.trans hv)
  ·rw[hv]at e;obtain rfl:=Option.some.inj e;exact Nat.lt_irrefl _ hb.2.1
 ·rcases hv with hv|hv
  ·exact h.d g (hv ▸ e)
  ·rw[hv]at e;obtain rfl:=Option.some.inj e;omega
theorem Ss.set(h:Ss w W k x y A n C vb v L):Ss w (W.setCell ⟨w.heap.size+2,3,none⟩ v) k x y A n C v v L:=by
 have hg:=Uo W (w.heap.size+2) 3 v;refine⟨h.QF.setCell (p:=⟨w.heap.size+2,3,none⟩) (show w.heap.size≤w.heap.size+2 by omega) _,(Below.heap_setCell _ _ _ _ (show w.heap.size≠w.heap.size+2 by omega)).trans h.b1,(Below.heap_setCell _ _ _ _ (show w.heap.size+1≠w.heap.size+2 by omega)).trans h.b2,?_,(h.o.grown hg (.inr fun e=>by have:=h.d _ e;omega) fun b hb=>⟨hb.2.1,fun e=>by have:=Option.some.inj e;have:=hb.1;omega⟩).more fun b hb=>⟨hb.1,VE hb.2.1 hg.size,hb.2.2⟩,h.d⟩;have:=Z8 h.b3 3 v;unfold Boxed;simpa using this
theorem Qx0{wr W:World}(h:Ss w wr k x y A n C vb v L)(hb:Below wr.heap.size wr W){b:Nat}(hb':Ll wr.heap.size W b):CS w W v b :=
 ⟨QW h.b3.lt hb'.1,hb'.2,fun e=>by have:=h.o.lt e.symm;have:=hb'.1;omega⟩
end
def pB(w W:World)(v:Value)(L:List Nd):Prop:=Zs W (fun b=>w.heap.size≤b∧b<W.heap.size∧some b≠v.ownBlock) v L∧∀g,v.ownBlock=some g→w.heap.size≤g
theorem pB.fs{w W:World}{v:Value}{L:List Nd}(h:pB w W v L):Fs W (Ll w.heap.size W) v (YG L) :=
 h.1.fs (fun b hb=>⟨hb.1,hb.2.1⟩) fun g e=>⟨h.2 g e,h.1.lt e⟩
def fN(N:Nat):Prop:=∀(k:Int)(x y:ByteArray)(A:Option Addr)(n C:Nat)(c:F)(w:World),c.size≤N→c.size≤100000→Fs w (Lo w.heap.size) (ς A n C) c→
 Calls Tryz.prog 15 #[ξ #[ι γ k,σ x,σ y,ς A n C]] w fun e w'=>Below w.heap.size w w'∧∃(Ar:Option Addr)(nr Cr:Nat),e=ρ (ξ #[ι γ k,σ x,σ y,ς Ar nr Cr])∧pB w w' (ς Ar nr Cr) (KH c)
theorem Qet{c:F}{i:Nat}{k:Int}{x y:ByteArray}{kc r:F}(h:c.drop i=.cons k x y kc r):(KH c)[i]?=some ⟨k,x,y,kc⟩:=by
 induction i generalizing c with
 |zero=>rw[show c=.cons k x y kc r from h];rfl
 |succ i ih =>
  cases c with
  |nil=>simp[F.drop]at h
  |cons k' x' y' c' r'=>exact ih (c:=r') h
theorem Qpo(N:Nat)(ih:∀M,M<N→fN M):fN N:=by
 intro k x y A n C c w hN hbig hf;have Sm:=Lib.hid ih;obtain⟨A',C',e,Ld,RS⟩:=hf.slice;injection e with q1 q2 q3;subst q1;subst q2;subst q3;have b1:=Å w (θ #[ι γ k,σ x,σ y,ς A c.len C] 24) (θ #[ι γ 0,σ ⟨#[]⟩,σ ⟨#[]⟩,ς none 0 0] 24) (θ #[ι γ k,σ x,σ y,ς none 0 0] 24);have HM:Hid (Ss w (((w.alloc (θ #[ι γ k,σ x,σ y,ς A c.len C] 24)).alloc (θ #[ι γ 0,σ ⟨#[]⟩,σ ⟨#[]⟩,ς none 0 0] 24)).alloc (θ #[ι γ k,σ x,σ y,ς none 0 0] 24)) k x y A c.len C (ς none 0 0) (ς none 0 0) ((KH c).take 0)):=by
  refine⟨b1,?_,?_,?_,Zs.nil _ _,fun g e=>by cases e⟩
  ·exact(Below.heap_alloc _ _ _ (by simp <;> omega)).trans ((Below.heap_alloc _ _ _ ψ).trans (heap_alloc_new _ _))
  ·have e:w.heap.size+1=(w.alloc (θ #[ι γ k,σ x,σ y,ς A c.len C] 24)).heap.size:=ψ
   rw[e];exact(Below.heap_alloc _ _ _ ψ).trans (heap_alloc_new _ _)
  ·have e:w.heap.size+2=((w.alloc (θ #[ι γ k,σ x,σ y,ς A c.len C] 24)).alloc (θ #[ι γ 0,σ ⟨#[]⟩,σ ⟨#[]⟩,ς none 0 0] 24)).heap.size:=ψ
   rw[e];exact heap_alloc_new _ _
 obtain⟨n,hn⟩:=Mem.QD (c.len);have J':Hid (n≤100000):=by show n≤_;have:=F.QL c;omega
 rw[hn]at HM hf Ld⊢;have HF:=Lib.hid hf;have HN:=Lib.hid hn;have FT:C≤9223372036854775807:=RS;clear ih hf b1 hn;go_enter Tryz.func15,Tryz.ntmps15;go_wp2
 go_loopw [4] (fun s4 wr=>∃(i ln C0:Nat)(A0:Option Addr),i≤n∧s4=ι γ (i:Int)∧Hid (Ss w wr k x y A n C (ς A0 ln C0) (ς A0 ln C0) ((KH c).take i))) (fun s4 _=>n-(intOf s4).toNat)
 case atStart=>exact⟨0,0,0,none,ZR _,rfl,HM.out⟩
 case round =>
  clear HM;obtain⟨i,ln,C0,A0,hi,rfl,HM⟩:=hrel;obtain⟨p0,p1,p2,p3⟩:=HM.out.b1.cells;by_cases hlt:i<n
  ·have hlt':(i:Int)<(n:Int):=ω
   have hi0:(0:Int)≤(i:Int):=ω
   obtain⟨kk,kx,ky,kc,kr,hdr,YZ⟩:=F.drop_cons (n:=i) (f:=c) (by rw[HN.out];exact hlt);have hfw:=HF.out.below HM.out.QF (Nat.le_refl _);obtain⟨b0,GM,s0,rfl,hb0,_,hat⟩:=hfw.at_ hdr;obtain⟨Ak,Ck,rfl,hk1,hk2⟩:=hat.kids.slice;have hnd:=Qet hdr;have hsz:=Ge hdr;have vR:Hid ((KH c).take (i+1)=(KH c).take i++[⟨kk,kx,ky,kc⟩]):=by show _=_;rw[List.take_add_one,hnd];rfl
   have hlb:b0<wr.heap.size:=VE hb0 HM.out.QF.size;obtain⟨kn,hkn⟩:=Mem.QD (kc.len);rw[hkn]at hat hk1;have ME:Hid (∀W,Below wr.heap.size wr W→W.cell? ⟨b0,GM+i*4,none⟩=some (ι γ kk)∧W.cell? ⟨b0,GM+i*4+1,none⟩=some (σ kx)∧W.cell? ⟨b0,GM+i*4+2,none⟩=some (σ ky)∧W.cell? ⟨b0,GM+i*4+3,none⟩=some (ς Ak kn Ck)):=fun W hW =>
    ⟨(hW.cell (p:=⟨b0,GM+i*4,none⟩) hlb).trans hat.c0,(hW.cell (p:=⟨b0,GM+i*4+1,none⟩) hlb).trans hat.c1,(hW.cell (p:=⟨b0,GM+i*4+2,none⟩) hlb).trans hat.c2,(hW.cell (p:=⟨b0,GM+i*4+3,none⟩) hlb).trans hat.c3⟩
   have hkl:=F.QL kc;have HKF:Hid (∀W,Below wr.heap.size wr W→Fs W (Lo W.heap.size) (ς Ak kn Ck) kc):=fun W hW=>(hat.kids.below hW HM.out.QF.size).up (QW HM.out.QF.size hW.size)
   have HC:Hid (∀W,Below wr.heap.size wr W→Calls Tryz.prog 15 #[ξ #[ι γ kk,σ kx,σ ky,ς Ak kn Ck]] W fun e w'=>Below W.heap.size W w'∧∃(Ar:Option Addr)(nr Cr:Nat),e = ρ (ξ #[ι γ kk,σ kx,σ ky,ς Ar nr Cr])∧Fs w' (Ll W.heap.size w') (ς Ar nr Cr) kc):=fun W hW =>
    (Sm.out kc.size ω kk kx ky Ak kn Ck kc W (Nat.le_refl _) ω ((HKF.out W hW))).mono fun e w' ⟨hb,Ar,nr,Cr,he,hnw⟩=>⟨hb,Ar,nr,Cr,he,by have:=hnw.fs;rwa[yK]at this⟩
   obtain⟨L,hL⟩:=Mem.QD ((KH c).take i);rw[hL]at HM vR;have Rc:Hid (L.length≤1000000):=by show L.length≤_;rw[←hL,List.length_take,Ul,HN.out];have:=J'.out;omega
   clear hdr YZ hfw hat hnd hsz hL hkn hkl hk2;go_wp2;refine Qic [0,1,2,3,4,5,6,7,8,9] 9 11 (fun W W'=>Below W.heap.size W W') (fun W=>Below wr.heap.size wr W) (fun v' W=>Ss w W k x y (some ⟨b0,GM,none⟩) n C (ς A0 ln C0) v' (L++[⟨kk,kx,ky,kc⟩])) (fun v' W=>Ss w W k x y (some ⟨b0,GM,none⟩) n C v' v' (L++[⟨kk,kx,ky,kc⟩])) [Cd.any,Cd.any,Cd.any,Cd.any,Cd.any,Cd.any,Cd.any,⟨fun v W=>∃(Ar:Option Addr)(nr Cr:Nat),v=ξ #[ι γ kk,σ kx,σ ky,ς Ar nr Cr]∧Fs W (Ll wr.heap.size W) (ς Ar nr Cr) kc,fun v W W' hU h=>by obtain⟨Ar,nr,Cr,e,hf⟩:=h;exact⟨Ar,nr,Cr,e,Uq hf hU⟩⟩,⟨fun v W=>∃(b:Nat)(Ar:Option Addr)(nr Cr:Nat),v=ς (some ⟨b,0,none⟩) 1 1∧wr.heap.size≤b∧b<W.heap.size∧W.cell? ⟨b,0,none⟩=some (ι γ kk)∧W.cell? ⟨b,1,none⟩=some (σ kx)∧W.cell? ⟨b,2,none⟩=some (σ ky)∧W.cell? ⟨b,3,none⟩=some (ς Ar nr Cr)∧Fs W (Ll wr.heap.size W) (ς Ar nr Cr) kc,fun v W W' hU h=>by obtain⟨b,Ar,nr,Cr,e,h1,h2,c0,c1,c2,c3,hf⟩:=h;exact⟨b,Ar,nr,Cr,e,h1,VE h2 hU.size,(hU.cell (p:=⟨b,0,none⟩) h2).trans c0,(hU.cell (p:=⟨b,1,none⟩) h2).trans c1,(hU.cell (p:=⟨b,2,none⟩) h2).trans c2,(hU.cell (p:=⟨b,3,none⟩) h2).trans c3,Uq hf hU⟩⟩,Cd.any,Cd.any,Cd.any] [(fun v=>v=π (some ⟨w.heap.size+2,3,none⟩)),(fun v=>v=ς A0 ln C0),(fun v=>v=π (some ⟨w.heap.size,3,none⟩)),(fun v=>v=ς (some ⟨b0,GM,none⟩) n C),(fun v=>v=ι γ (i:Int)),(fun v=>v=π (some ⟨b0,GM+i*4,none⟩)),(fun v=>v=ξ #[ι γ kk,σ kx,σ ky,ς Ak kn Ck]),(fun _=>True),(fun _=>True),(fun _=>True),(fun v=>v=π (some ⟨w.heap.size+2,3,none⟩)),(fun _=>True)] χ δ χ χ χ δ δ δ ((QE _ _).drew) (fun _ _ hU hS=>hS.trans (hU.mono hS.size)) (fun _ _ _ hU hS=>hS.later hU) (fun _ _ _ hU hS=>hS.later hU) ?steps ?behind
   case steps =>
    intro xv W a ha;simp only[Qi]at ha;simp only[ZC,ZA,QZ,Nat.zero_add,Nat.reduceAdd]at ha;subst ha;refine⟨?s0,?s1,?s2,?s3,?s4,?s5,?s6,?s7,?s8,?s9,?JQ,?GA,trivial⟩;all_goals intro hI hS1 Bt hd he K hK
    all_goals(try simp only[Act.put,ZC,ZA,QZ]at hK)
    case s0|s2|s4|JQ=>clear hd he hS1 Bt;refine(if_pos (by rfl)).mpr ?_;exact c33
    case s1=>have hx0:xv 0=π (some ⟨w.heap.size+2,3,none⟩):=hd 0 χ;have JD:=hS1 (.inl χ);clear hd he hS1 Bt;rw[hx0]at hK⊢;refine(if_pos (by rfl)).mpr ?_;obtain⟨hq0,hq1,hq2,Ns⟩:=(HM.out.later JD).b3.cells;exact c33
    case s3=>have hx2:xv 2=π (some ⟨w.heap.size,3,none⟩):=hd 2 χ;have JD:=hS1 (.inl χ);clear hd he hS1 Bt;rw[hx2]at hK⊢;refine(if_pos (by rfl)).mpr ?_;obtain⟨hq0,hq1,hq2,Ns⟩:=(HM.out.later JD).b1.cells;exact c33
    case s5=>have hx3:xv 3=ς (some ⟨b0,GM,none⟩) n C:=hd 3 χ;have JJ:xv 4=ι γ (i:Int):=hd 4 χ;clear hd he hS1 Bt;rw[hx3]at hK⊢;rw[JJ]at hK⊢;refine(if_pos (by rfl)).mpr ?_;exact c33
    case s6=>have JB:xv 5=π (some ⟨b0,GM+i*4,none⟩):=hd 5 χ;have JD:=hS1 (.inl χ);clear hd he hS1 Bt;rw[JB]at hK⊢;refine(if_pos (by rfl)).mpr ?_;obtain⟨hq0,hq1,hq2,Ns⟩:=ME.out W JD;exact c33
    case s7=>have JR:xv 6=ξ #[ι γ kk,σ kx,σ ky,ς Ak kn Ck]:=hd 6 χ;have JD:=hS1 (.inl χ);clear hd he hS1 Bt;rw[JR]at hK⊢;refine(if_pos (by rfl)).mpr ?_;go_simp;go_at_call 15;refine(HC.out W JD).mono ?_;rintro e w' ⟨hb,Ar,nr,Cr,rfl,hf⟩;exact hK.out _ _ (fun _ _=>⟨hb,Ar,nr,Cr,rfl,hf.more fun b hb'=>⟨QW JD.size hb'.1,hb'.2⟩⟩) (fun e=>absurd e δ) (fun e=>absurd e δ) trivial
    case s8=>have he7:∃(Ar:Option Addr)(nr Cr:Nat),xv 7=ξ #[ι γ kk,σ kx,σ ky,ς Ar nr Cr]∧Fs W (Ll wr.heap.size W) (ς Ar nr Cr) kc:=he (.inl χ) 7 χ;have JD:=hS1 (.inl χ);clear hd he hS1 Bt;refine(if_pos (by rfl)).mpr ?_;obtain⟨Ar,nr,Cr,e7,hf⟩:=he7;rw[e7]at hK⊢;go_simp;have hb:=Qa W (θ #[ι γ kk,σ kx,σ ky,ς Ar nr Cr] 24);have JF:=Vc W kk kx ky (ς Ar nr Cr);obtain⟨z0,z1,z2,z3⟩:=JF.cells;exact hK.out _ _ (fun _ _=>⟨hb,W.heap.size,Ar,nr,Cr,rfl,JD.size,ψ,z0,z1,z2,z3,Uq hf hb⟩) (fun e=>absurd e δ) (fun e=>absurd e δ) trivial
    case s9=>have hx1:xv 1=ς A0 ln C0:=hd 1 χ;have he8:∃(b:Nat)(Ar:Option Addr)(nr Cr:Nat),xv 8=ς (some ⟨b,0,none⟩) 1 1∧wr.heap.size≤b∧b<W.heap.size∧W.cell? ⟨b,0,none⟩=some (ι γ kk)∧W.cell? ⟨b,1,none⟩=some (σ kx)∧W.cell? ⟨b,2,none⟩=some (σ ky)∧W.cell? ⟨b,3,none⟩=some (ς Ar nr Cr)∧Fs W (Ll wr.heap.size W) (ς Ar nr Cr) kc:=he (.inr rfl) 8 χ;have JD:=hS1 (.inr rfl);clear hd he hS1 Bt;rw[hx1]at hK⊢;refine(if_pos (by rfl)).mpr ?_;obtain⟨b,Ar,nr,Cr,e8,h1,h2,c0,c1,c2,c3,hf⟩:=he8;have aY:=HM.out.later JD;rw[e8]at hK⊢;refine Eg _ _ rfl (CS w W (ς A0 ln C0)) (ς A0 ln C0) L b 1 ⟨kk,kx,ky,kc⟩ (ς Ar nr Cr) rfl rfl ⟨c0,c1,c2,c3⟩ aY.o (hf.more fun b' hb'=>Qx0 HM.out JD hb') aY.sS Rc.out ?_;intro v' w' r1 r2 r3;exact hK.out _ _ (fun e=>absurd rfl e) (fun _=>aY.app r1 r2 r3) (fun e=>absurd e δ) trivial
    case GA=>have ZE:xv 10=π (some ⟨w.heap.size+2,3,none⟩):=hd 10 χ;have FN:=Bt rfl;clear hd he hS1 Bt;rw[ZE]at hK⊢;refine(if_pos (by rfl)).mpr ?_;obtain⟨a9,c9,e9,_,_⟩:=FN.o.slice;obtain⟨m9,JC⟩:∃m,(L++[(⟨kk,kx,ky,kc⟩:Nd)]).length=m:=⟨_,rfl⟩;rw[JC]at e9;clear JC;obtain⟨y0,y1,y2,y3⟩:=JO FN.b3;obtain⟨x0,x1,x2,x3⟩:=FN.b3.cells;have ZV:=FN.set;rw[e9]at hK ZV⊢;go_simp;exact hK.out undef _ (fun _ e=>absurd rfl e) (fun e=>absurd e δ) (fun _=>ZV) trivial
   case behind =>
    intro xv W hW hx a ha;simp only[Qi]at ha;simp only[ZC,ZA,QZ,Nat.zero_add,Nat.reduceAdd]at ha;subst ha;have HX:Hid (∃(A1:Option Addr)(n1 C1:Nat),Ss w W k x y (some ⟨b0,GM,none⟩) n C (ς A1 n1 C1) (ς A1 n1 C1) ((KH c).take (i+1))):=by obtain⟨a9,c9,e9,_,_⟩:=hW.o.slice;rw[e9]at hW;exact⟨a9,_,c9,by rw[vR.out];exact hW⟩
    obtain⟨A1,n1,C1,Mn⟩:=HX.out;have SD:=Lib.hid Mn;clear hx hW Mn HX;go_wp2
    go_roundw
    case rel=>exact⟨i+1,n1,C1,A1,ω,by go_num,SD.out⟩
    case measure=>simp[intOf];omega
  ·have hlt':¬(i:Int)<(n:Int):=ω
   obtain rfl:i=n:=ω
   obtain⟨z0,z1,z2,z3⟩:=HM.out.b3.cells;obtain⟨y0,y1,y2,y3⟩:=JO HM.out.b2;obtain⟨x0,x1,x2,x3⟩:=HM.out.b2.cells;have HT:Hid ((KH c).take i=KH c):=by show _=_;rw[List.take_of_length_le];rw[Ul,HN.out];exact Nat.le_refl _
   clear hlt;go_wp2;refine bodyPost_ret (results_cell_row rfl _ _ (w.heap.size+1) 24 _ (0,0) _ rfl (X3 HM.out.b2) Tryz.underlying24 rfl pY) rfl ?_;have hbb:=Ji wr (w.heap.size+1) (ι γ k) (σ x) (σ y) (ς A0 ln C0);have hoth:∀b,b≠w.heap.size+1→(((((wr.setCell ⟨w.heap.size+1,0,none⟩ (ι γ k)).setCell ⟨w.heap.size+1,1,none⟩ (σ x)).setCell ⟨w.heap.size+1,2,none⟩ (σ y)).setCell ⟨w.heap.size+1,3,none⟩ (ς A0 ln C0))).heap[b]?=wr.heap[b]?:=fun b hb=>Vr _ _ _ _ _ _ _ hb
   have hgr:wr.grownBy (((((wr.setCell ⟨w.heap.size+1,0,none⟩ (ι γ k)).setCell ⟨w.heap.size+1,1,none⟩ (σ x)).setCell ⟨w.heap.size+1,2,none⟩ (σ y)).setCell ⟨w.heap.size+1,3,none⟩ (ς A0 ln C0))) (some (w.heap.size+1)):=⟨hbb.os,hbb.tape,hbb.output,hbb.size,fun b _ hne=>hoth b fun e=>hne (by rw[e])⟩;have hM:=HM.out;rw[HT.out]at hM;refine⟨hM.QF.trans (hbb.mono (Nat.le_succ _)),A0,ln,C0,rfl,?_,fun g e=>QW ω (hM.d g e)⟩;exact(hM.o.grown hgr (.inr fun e=>by have:=hM.d _ e;omega) fun b hb=>⟨hb.2.1,fun e=>by have:=Option.some.inj e;have:=hb.1;omega⟩).more fun b hb=>⟨QW ω hb.1,VE hb.2.1 hbb.size,hb.2.2⟩
theorem È(N:Nat):fN N:=by
 induction N using Nat.strongRecOn with
 |_ N ih=>exact Qpo N ih
