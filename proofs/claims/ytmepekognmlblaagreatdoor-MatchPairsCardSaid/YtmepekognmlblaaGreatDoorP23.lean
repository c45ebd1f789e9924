import Derived.Test.YtmepekognmlblaaGreatDoorP20
import Derived.Test.YtmepekognmlblaaGreatDoorP21
import Derived.Test.YtmepekognmlblaaGreatDoorP22
set_option maxHeartbeats 8000000
set_option maxRecDepth 100000
set_option linter.unusedVariables false
open Go.Proofs.Tryz Go.ChangeShapes Go.WideShapes Go.ChangeAt Go.RowKit
open _root_.Nat renaming le_refl→QI,zero_add→ZL,lt_of_lt_of_le→VE
open _root_.List renaming length_cons→GW,getElem?_append_right→GK,length_map→VD,getElem?_append_left→PX
open Go.Lib renaming hid→QA
open Go.Value renaming string→σ,int→ι,slice→ς,bool→τ,agg→ξ
open Go.IntKind renaming i64→γ
open Go.Obj renaming cells→θ
open Go.Ending renaming returned→ρ
namespace Go.Proofs.YtmepekognmlblaaGreatDoor
namespace Tree
open Mem
def YG:List Nd→F
 |[]=>.nil
 |nd::l=>.cons nd.k nd.x nd.y nd.c (YG l)
theorem rh:∀l:List Nd,(YG l).len=l.length
 |[]=>rfl
 |nd::l=>by simp only[YG,F.len,rh l,GW]
theorem Yf{w:World}{S:Nat→Prop}(g:Nat)(hg:S g):∀(ps:List (Nd×Value))(off n C:Nat),ps.length=n→n≤C→C≤9223372036854775807→(∀j u,(ps.flatMap VC)[j]?=some u→w.cell? ⟨g,off+j,none⟩=some u)→(∀p∈ps,Fs w S p.2 p.1.c)→
 ∀A,(n=0∨A=some ⟨g,off,none⟩)→Fs w S (ς A n C) (YG (ps.map (·.1)))
 |[],off,n,C,hl,hC,hm,hc,hf,A,hA=>by
  simp only[List.length_nil]at hl;subst hl;exact⟨A,C,rfl,hm⟩
 |p::ps,off,n,C,hl,hC,hm,hc,hf,A,hA=>by
  simp only[GW]at hl;subst hl;obtain⟨C',rfl⟩:∃C',C=C'+1:=⟨C-1,ω⟩;have hA':A=some ⟨g,off,none⟩:=hA.resolve_left ω;subst hA'
  have hj:∀j u,(VC p)[j]? = some u→w.cell? ⟨g,off+j,none⟩=some u:=fun j u hu=>hc j u (by
   rw[List.flatMap_cons,PX (by
    rcases Nat.lt_or_ge j (VC p).length with h' |h'
    ·exact h'
    ·rw[List.getElem?_eq_none h']at hu;cases hu)]
   exact hu)
  refine⟨g,off,ps.length,C',p.2,rfl,by rw[rh,VD],ω,hm,hg,hj 0 _ rfl,hj 1 _ rfl,hj 2 _ rfl,hj 3 _ rfl,hf p (List.mem_cons_self ..),fun A' hA'=>?_⟩;refine Yf g hg ps (off+4) ps.length C' rfl ω ω (fun j u hu=>?_) (fun q hq=>hf q (List.mem_cons_of_mem _ hq)) A' ?_
  ·rw[show off+4+j=off+(4+j)by omega];refine hc (4+j) u ?_;rw[List.flatMap_cons,GK (by rw[Vn];omega),Vn,show 4+j-4=j by omega];exact hu
  ·rcases hA' with h|h
   ·left
    have:(YG (ps.map (·.1))).len=ps.length:=by rw[rh,VD]
    rw[h]at this;exact this.symm
   ·exact .inr h
def KH:F→List Nd
 | .nil=>[]
 | .cons k x y c r=>⟨k,x,y,c⟩::KH r
theorem Ul:∀f:F,(KH f).length=f.len
 | .nil=>rfl
 | .cons k x y c r=>by simp only[KH,GW,F.len,Ul r]
theorem yK:∀f:F,YG (KH f)=f
 | .nil=>rfl
 | .cons k x y c r=>by simp only[KH,YG,yK r]
theorem Qdn:∀(l:List Nd)(f:F),YG (l++KH f)=l.foldr (fun nd g => .cons nd.k nd.x nd.y nd.c g) f
 |[],f=>by simp[yK]
 |nd::l,f=>by simp only[List.cons_append,YG,Qdn l f,List.foldr_cons]
theorem ŏ{w:World}{S:Nat→Prop}:∀{f:F}{b off n C:Nat},Fs w S (ς (some ⟨b,off,none⟩) n C) f→
 ∃ps:List (Nd×Value),ps.map (·.1)=KH f∧ps.length=n∧(∀j u,(ps.flatMap VC)[j]?=some u→w.cell? ⟨b,off+j,none⟩=some u)∧∀p∈ps,Fs w S p.2 p.1.c
 | .nil,b,off,n,C,⟨A,C',e,_⟩=>by
   injection e with _ e2 _;subst e2;exact⟨[],rfl,rfl,fun j u hu=>by simp at hu,fun p hp=>by cases hp⟩
 | .cons k x y c r,b,off,n,C,⟨b',Ni,n',C',s,e,h1,h2,h3,hS,c0,c1,c2,c3,hk,hr⟩=>by
   injection e with e1 e2 e3;injection e1 with e1;injection e1 with e4 e5;subst e4;subst e5;subst e2;subst e3;obtain⟨ps,p1,p2,p3,p4⟩:=ŏ (hr (some ⟨b,off+4,none⟩) (.inr rfl));refine⟨(⟨k,x,y,c⟩,s)::ps,by rw[List.map_cons,p1];rfl,by rw[GW,p2],fun j u hu=>?_,fun p hp=>?_⟩
   ·rw[List.flatMap_cons]at hu;by_cases hj:j<4
    ·rw[PX (by rw[Vn];exact hj)]at hu
     match j,hj,hu with
     |0,_,hu=>cases hu;exact c0
     |1,_,hu=>cases hu;exact c1
     |2,_,hu=>cases hu;exact c2
     |3,_,hu=>cases hu;exact c3
    ·rw[GK (by rw[Vn];omega),Vn]at hu;have:=p3 (j-4) u hu;rwa[show off+4+(j-4)=off+j by omega]at this
   ·rcases List.mem_cons.1 hp with rfl|hp
    ·exact hk
    ·exact p4 p hp
theorem ø{w:World}{S:Nat→Prop}{B base:Nat}{v:Value}{L:List Nd}(h:K3 w B base v L)(hB:∀b,b<B→S b)(hS:∀g,base≤g→g<w.heap.size→S g):Fs w S v (YG L):=by
 obtain⟨ps,h1,ho,hf⟩:=h;rcases ho.2 with⟨rfl,h0⟩|⟨g,cap,cur,rfl,hg0,hg,q1,q2,q3,q4⟩
 ·exact c103
 ·have e:YG L=YG (ps.map (·.1)):=by rw[h1]
  rw[e];have hc:=ho.cells (g:=g) rfl;have ad:∀j,(⟨g,0,none⟩:Addr).add j=⟨g,j,none⟩:=fun j=>by unfold Addr.add;split <;> simp_all
  refine Yf g (hS g hg0 (lt_of_block hg)) ps 0 L.length cap (by rw[←h1];simp) q1 q2 (fun j u hu=>?_) (fun p hp=>(hf p hp).more hB) _ (.inr rfl);have:=hc j u hu;rwa[ad,←ZL j]at this
theorem Vr(w:World)(g b:Nat)(v0 v1 v2 v3:Value)(h:b≠g):((((w.setCell ⟨g,0,none⟩ v0).setCell ⟨g,1,none⟩ v1).setCell ⟨g,2,none⟩ v2).setCell ⟨g,3,none⟩ v3).heap[b]?=w.heap[b]?:=by
 rw[Below.heap_setCell _ _ _ _ h,Below.heap_setCell _ _ _ _ h,Below.heap_setCell _ _ _ _ h,Below.heap_setCell _ _ _ _ h]
theorem Ā(w:World){ops:Array Oper}{rest:List Oper}{o:Oper}{a:Act}{Q:Exit→Act→World→Prop}(hgd:o.guard=none)(s x:Operand)
 (ho:o.op=.call { callee:=.builtin .append,args:=#[s,x],argTypes:=#[22,22] }) (B base:Nat) (v:Value) (L1:List Nd) (f:F) (b off m c:Nat) (hs:a.eval s=v) (hx:a.eval x=ς (some ⟨b,off,none⟩) m c)
 (h1:K3 w B base v L1) (h2:Fs w (Lo B) (ς (some ⟨b,off,none⟩) m c) f) (hB:B≤base) (hbase:base≤w.heap.size) (hlen:L1.length+m≤1000000)
 (h:∀v' w',K3 w' B base v' (L1++KH f)→Below base w w'→wpList prog ops Q rest (a.put o.dst v') w'):wpList prog ops Q (o::rest) a w:=by
 obtain⟨i0,hi0,hz0,hz1,hz2⟩:=info_parts Jz;obtain⟨jE,e1,XD,Pe⟩:=h1;obtain⟨jD,e2,hl2,hc2,hf2⟩:=ŏ h2;have ad:∀j,(⟨b,off,none⟩:Addr).add j=⟨b,off+j,none⟩:=fun j=>by unfold Addr.add;split <;> simp_all
 have Db:(KH f).length=m:=by rw[←e2,VD,hl2]
 refine wpList_append_own_at (P:=prog) w hgd s x 22 ho base 24 i0 (ξ #[ι γ 0,σ ⟨#[]⟩,σ ⟨#[]⟩,ς none 0 0]) 4 64 underlying22 hi0 hz0 hz1 hz2 rfl δ v L1.length _ hs XD ⟨b,off,none⟩ m c (jD.flatMap VC) hx (by rw[Lm.rE Vn,hl2]) (fun j u hu=>by rw[ad];exact hc2 j u hu) (Ł hf2) (by unfold maxLen;omega) ω hbase fun v' w' r1 r2 _ _=>?_
 have hbl:Below base w w':=(Below.refl _ _).grown r2 hbase (fun k hk=>(XD.lt k hk).1);refine h v' w' ⟨jE++jD,by rw[List.map_append,e1,e2],by rw[List.flatMap_append,List.length_append,Db];exact r1,fun p hp=>?_⟩ hbl;rcases List.mem_append.1 hp with hp|hp
 ·exact(Pe p hp).below hbl hB
 ·exact(hf2 p hp).below hbl hB
def Xp(w:World)(v:Value)(k:Int)(x:ByteArray)(c:F):Prop:=∃A n C,v=ξ #[ι γ k,σ x,σ ⟨#[]⟩,ς A n C]∧Fs w (Lo w.heap.size) (ς A n C) c
theorem Xp.later{w w':World}{v:Value}{k:Int}{x:ByteArray}{c:F}(h:Xp w v k x c)(hb:Below w.heap.size w w'):Xp w' v k x c:=by
 obtain⟨A,n,C,e,hf⟩:=h;exact⟨A,n,C,e,hf.later hb⟩
theorem pY:(prog.info? 24).map (·.size)=some 4:=χ
theorem V6(w:World)(S:Nat→Prop):Fs w S (ς none 0 0) .nil:=⟨none,0,rfl,ω⟩
theorem Q0l(w:World)(o1 o2 o3:Obj):(((w.alloc o1).alloc o2).alloc o3).heap[w.heap.size+1]?=some o2:=by
 have e:w.heap.size+1=(w.alloc o1).heap.size:=ψ
 rw[Below.heap_alloc _ _ _ ψ,e,heap_alloc_new]
theorem Qty(w:World)(o1 o2 o3:Obj):Below w.heap.size w (((w.alloc o1).alloc o2).alloc o3):=(Qt w o1 o2).trans ((Qa _ _).mono (Qt w o1 o2).size)
theorem ü(W:World)(k1 k2:Int)(x1 x2:ByteArray)(A1 A2:Option Addr)(n1 C1 n2 C2:Nat)(c1 c2:F)(h1:Fs W (Lo W.heap.size) (ς A1 n1 C1) c1)(h2:Fs W (Lo W.heap.size) (ς A2 n2 C2) c2) :
 Fs (W.alloc (θ #[ι γ k1,σ x1,σ ⟨#[]⟩,ς A1 n1 C1,ι γ k2,σ x2,σ ⟨#[]⟩,ς A2 n2 C2] 24)) (Lo (W.heap.size+1)) (ς (some ⟨W.heap.size,0,none⟩) 2 2) (.cons k1 x1 ⟨#[]⟩ c1 (.cons k2 x2 ⟨#[]⟩ c2 .nil)):=by
 have hb:=Qa W (θ #[ι γ k1,σ x1,σ ⟨#[]⟩,ς A1 n1 C1,ι γ k2,σ x2,σ ⟨#[]⟩,ς A2 n2 C2] 24);refine Yf W.heap.size (by show _<_;omega) [(⟨k1,x1,⟨#[]⟩,c1⟩,ς A1 n1 C1),(⟨k2,x2,⟨#[]⟩,c2⟩,ς A2 n2 C2)] 0 2 2 rfl (QI _) ω (fun j u hu=>?_) (fun p hp=>?_) _ (.inr rfl)
 ·rw[ZL,World.cell?_alloc_at _ _ _ _ rfl];simpa[VC]using hu
 ·simp only[List.mem_cons,List.not_mem_nil,or_false]at hp;rcases hp with rfl|rfl
  ·exact(h1.below hb (QI _)).up (Nat.le_succ _)
  ·exact(h2.below hb (QI _)).up (Nat.le_succ _)
theorem Qy0(W:World)(k1:Int)(x1:ByteArray)(A1:Option Addr)(n1 C1:Nat)(c1:F)(h1:Fs W (Lo W.heap.size) (ς A1 n1 C1) c1) :
 Fs (W.alloc (θ #[ι γ k1,σ x1,σ ⟨#[]⟩,ς A1 n1 C1] 24)) (Lo (W.heap.size+1)) (ς (some ⟨W.heap.size,0,none⟩) 1 1) (.cons k1 x1 ⟨#[]⟩ c1 .nil):=by
 have hb:=Qa W (θ #[ι γ k1,σ x1,σ ⟨#[]⟩,ς A1 n1 C1] 24);refine Yf W.heap.size (by show _<_;omega) [(⟨k1,x1,⟨#[]⟩,c1⟩,ς A1 n1 C1)] 0 1 1 rfl (QI _) ω (fun j u hu=>?_) (fun p hp=>?_) _ (.inr rfl)
 ·rw[ZL,World.cell?_alloc_at _ _ _ _ rfl];simpa[VC]using hu
 ·simp only[List.mem_singleton]at hp;subst hp;exact(h1.below hb (QI _)).up (Nat.le_succ _)
theorem Kw(s:ByteArray)(k1:Int)(x1:ByteArray)(A1:Option Addr)(n1 C1:Nat)(c1:F)(w:World)(h1:Fs w (Lo w.heap.size) (ς A1 n1 C1) c1) :
 Calls prog 24 #[σ s,ξ #[ι γ k1,σ x1,σ ⟨#[]⟩,ς A1 n1 C1]] w fun e w'=>Below w.heap.size w w'∧∃v,e=ρ v∧Xp w' v 4 s (.cons k1 x1 ⟨#[]⟩ c1 .nil):=by
 go_enter func24,ntmps24;go_wp2;refine bodyPost_ret (results_cell_row rfl _ _ (w.heap.size+1) 24 _ (0,0) _ rfl (Q0l _ _ _ _) underlying24 rfl pY) rfl ?_;have b2:=Qt w (θ #[ι γ k1,σ x1,σ ⟨#[]⟩,ς A1 n1 C1] 24) (θ #[ι γ 4,σ s,σ ⟨#[]⟩,ς (some ⟨w.heap.size+1+1,0,none⟩) 1 1] 24);have hf:=Qy0 _ k1 x1 A1 n1 C1 c1 (h1.later b2);refine⟨b2.trans ((Qa _ _).mono b2.size),_,rfl,some ⟨w.heap.size+1+1,0,none⟩,1,1,rfl,?_⟩;simp only[World.size_alloc]at hf⊢;exact hf
theorem Qbz(g n:Nat)(c:F)(w:World)(hn:n≤100000)(hf:Fs w (Lo w.heap.size) (ς (some ⟨g,0,none⟩) n n) c) :
 Calls prog 23 #[ς (some ⟨g,0,none⟩) n n] w fun e w'=>Below w.heap.size w w'∧∃v,e=ρ v∧Xp w' v 1 ⟨#[]⟩ (.cons 2 ⟨#[112]⟩ ⟨#[]⟩ .nil c):=by
 have b1:=Qa w (θ #[ι γ 0,σ ⟨#[]⟩,σ ⟨#[]⟩,ς none 0 0] 24);have hown:=ş (w.alloc (θ #[ι γ 0,σ ⟨#[]⟩,σ ⟨#[]⟩,ς none 0 0] 24)) w.heap.size ⟨2,⟨#[112]⟩,⟨#[]⟩,.nil⟩ (ς none 0 0) (V6 _ _) b1.size;have b2:=Qa (w.alloc (θ #[ι γ 0,σ ⟨#[]⟩,σ ⟨#[]⟩,ς none 0 0] 24)) (θ #[ι γ 2,σ ⟨#[112]⟩,σ ⟨#[]⟩,ς none 0 0] 24);have UC:=b1.trans (b2.mono b1.size);have SG:=Lib.hid (hf.below UC (QI _));have e1:(w.alloc (θ #[ι γ 0,σ ⟨#[]⟩,σ ⟨#[]⟩,ς none 0 0] 24)).heap.size=w.heap.size+1:=ψ
 rw[e1]at hown;have HO:=Lib.hid hown;have HB:=Lib.hid UC;have KB:Hid (Boxed ((w.alloc (θ #[ι γ 0,σ ⟨#[]⟩,σ ⟨#[]⟩,ς none 0 0] 24)).alloc (θ #[ι γ 2,σ ⟨#[112]⟩,σ ⟨#[]⟩,ς none 0 0] 24)) w.heap.size 0 ⟨#[]⟩ ⟨#[]⟩ (ς none 0 0)):=(Vc w _ _ _ _).below b2 ψ;have XO:Hid (w.heap.size+1≤((w.alloc (θ #[ι γ 0,σ ⟨#[]⟩,σ ⟨#[]⟩,ς none 0 0] 24)).alloc (θ #[ι γ 2,σ ⟨#[112]⟩,σ ⟨#[]⟩,ς none 0 0] 24)).heap.size):=by show _≤_;simp
 clear hf b1 b2 UC hown;go_enter func23,ntmps23;go_wp2_with (at_builtin;refine Ā _ rfl _ _ rfl w.heap.size (w.heap.size+1) _ [⟨2,⟨#[112]⟩,⟨#[]⟩,.nil⟩] c g 0 n n rfl rfl HO.out SG.out (Nat.le_succ _) XO.out ?_ ?_)
 ·show 1+n≤_;omega
 intro v3 w3 UY hb3;obtain⟨a3,c3,rfl,hc3,WM⟩:=UY.slice;have QP:=Lib.hid (ø (S:=fun b=>b≠w.heap.size∧b<w3.heap.size) UY (fun b hb=>⟨ω,by have:=HB.out.size;have:=hb3.size;omega⟩) (fun g hg hg2=>⟨ω,hg2⟩));have VG:=Lib.hid (KB.out.below hb3 (Nat.lt_succ_self _));have UQ:=Lib.hid (HB.out.trans (hb3.mono (Nat.le_succ _)));obtain⟨z0,z1,z2,z3⟩:=JO VG.out;obtain⟨y0,y1,y2,y3⟩:=VG.out.cells;clear UY hb3 hc3 WM;go_wp2;refine bodyPost_ret (results_cell_row rfl _ _ w.heap.size 24 _ (0,0) _ rfl (X3 VG.out) underlying24 rfl pY) rfl ?_;have hbb:=Ji w3 w.heap.size (ι γ 1) (σ ⟨#[]⟩) (σ ⟨#[]⟩) (ς a3 ([⟨2,⟨#[112]⟩,⟨#[]⟩,.nil⟩]++KH c:List Nd).length c3);refine⟨UQ.out.trans hbb,_,rfl,a3,_,c3,rfl,?_⟩;have e:YG ([⟨2,⟨#[112]⟩,⟨#[]⟩,.nil⟩]++KH c)=.cons 2 ⟨#[112]⟩ ⟨#[]⟩ .nil c:=by rw[Qdn];rfl
 rw[←e];exact(QP.out.keep fun b hb=>Vr _ _ _ _ _ _ _ hb.1).more fun b hb=>Nat.lt_of_lt_of_le hb.2 hbb.size
def Zs(w:World)(S:Nat→Prop)(v:Value)(L:List Nd):Prop :=
 ∃ps:List (Nd×Value),ps.map (·.1)=L∧w.ownsRow 0 24 4 v L.length (ps.flatMap VC)∧∀p∈ps,Fs w S p.2 p.1.c
theorem Zs.nil(w:World)(S:Nat→Prop):Zs w S (ς none 0 0) []:=⟨[],rfl,World.ownsRow_nil _ _ _ _,fun p hp=>by cases hp⟩
theorem Zs.slice{w:World}{S:Nat→Prop}{v:Value}{L:List Nd}(h:Zs w S v L):∃a c,v=ς a L.length c∧L.length≤c∧c≤maxLen:=by
 obtain⟨ps,_,ho,_⟩:=h;exact Q0 ho
theorem Zs.lt{w:World}{S:Nat→Prop}{v:Value}{L:List Nd}(h:Zs w S v L){g:Nat}(hg:v.ownBlock=some g):g<w.heap.size:=by
 obtain⟨ps,_,ho,_⟩:=h;exact(ho.lt g hg).2
theorem Zs.grown{w w':World}{S:Nat→Prop}{v:Value}{L:List Nd}{row:Option Nat}(h:Zs w S v L)(hg:w.grownBy w' row)(hne:v.ownBlock=none∨v.ownBlock≠row)(hS:∀b,S b→b<w.heap.size∧some b≠row):Zs w' S v L:=by
 obtain⟨ps,e,ho,hf⟩:=h;exact⟨ps,e,ho.kept hg hne,fun p hp=>(hf p hp).keep fun b hb=>hg.block b (hS b hb).1 (hS b hb).2⟩
theorem Zs.more{w:World}{S S':Nat→Prop}{v:Value}{L:List Nd}(h:Zs w S v L)(hS:∀b,S b→S' b):Zs w S' v L:=by
 obtain⟨ps,e,ho,hf⟩:=h;exact⟨ps,e,ho,fun p hp=>(hf p hp).more hS⟩
theorem Jh{w w':World}(h:Below w.heap.size w w')(row:Option Nat):w.grownBy w' row:=⟨h.os,h.tape,h.output,h.size,fun k hk _=>h.block k hk⟩
theorem UL{w w':World}{B:Nat}{row:Option Nat}(h:w.grownBy w' row)(hB:B≤w.heap.size)(hr:∀k,row=some k→B≤k):Below B w w' :=
 ⟨h.os,h.tape,h.output,h.size,fun k hk=>h.block k (Nat.lt_of_lt_of_le hk hB) (fun e=>by have:=hr k e.symm;omega)⟩
theorem Zs.later{w w':World}{S:Nat→Prop}{v:Value}{L:List Nd}(h:Zs w S v L)(hb:Below w.heap.size w w')(hS:∀b,S b→b<w.heap.size):Zs w' S v L:=by
 cases hv:v.ownBlock with
 |none=>exact h.grown (Jh hb none) (.inl hv) (fun b FK=>⟨hS b FK,ψ⟩)
 |some g=>exact h.grown (Jh hb none) (.inr (by simp[hv])) (fun b FK=>⟨hS b FK,ψ⟩)
theorem Zs.fs{w:World}{S S':Nat→Prop}{v:Value}{L:List Nd}(h:Zs w S v L)(hS:∀b,S b→S' b)(hg:∀g,v.ownBlock=some g→S' g):Fs w S' v (YG L):=by
 obtain⟨ps,h1,ho,hf⟩:=h;rcases ho.2 with⟨rfl,h0⟩|⟨g,cap,cur,rfl,hg0,hg2,q1,q2,q3,q4⟩
 ·exact c103
 ·have e:YG L=YG (ps.map (·.1)):=by rw[h1]
  rw[e];have hc:=ho.cells (g:=g) rfl;have ad:∀j,(⟨g,0,none⟩:Addr).add j=⟨g,j,none⟩:=fun j=>by unfold Addr.add;split <;> simp_all
  refine Yf g (hg g rfl) ps 0 L.length cap (by rw[←h1];simp) q1 q2 (fun j u hu=>?_) (fun p hp=>(hf p hp).more hS) _ (.inr rfl);have:=hc j u hu;rwa[ad,←Nat.zero_add j]at this
theorem Qh6(w:World)(ty:TypeId)(S:Nat→Prop)(v:Value)(L:List Nd)(b c:Nat)(nd:Nd)(s:Value)
 (hc:w.cell? ⟨b,0,none⟩=some (ι γ nd.k)∧w.cell? ⟨b,1,none⟩=some (σ nd.x)∧w.cell? ⟨b,2,none⟩=some (σ nd.y)∧w.cell? ⟨b,3,none⟩=some s) (h1:Zs w S v L) (h2:Fs w S s nd.c)
 (hS:∀b,S b→b<w.heap.size∧some b≠v.ownBlock) (hlen:L.length≤1000000) :
 ∃v' w',(Builtin.append_ #[22,22] ty #[v,ς (some ⟨b,0,none⟩) 1 c]).run Tryz.prog w=.ok v' w'∧Zs w' S v' (L++[nd])∧w.grownBy w' v.ownBlock∧(v'.ownBlock=v.ownBlock∨v'.ownBlock=some w.heap.size):=by
 obtain⟨i0,hi0,hz0,hz1,hz2⟩:=info_parts Jz;obtain⟨ps,e1,ho,hf⟩:=h1;obtain⟨A2,C2,e2,_,_⟩:=h2.slice;have hmul:(L.length+1)*64≤1000001*64:=Nat.mul_le_mul ω (Nat.le_refl _)
 obtain⟨v',w',hrun,r1,r2,_,r3⟩:=run_append_own_at (P:=Tryz.prog) w 0 22 ty 24 i0 _ 4 64 Tryz.underlying22 hi0 hz0 hz1 hz2 rfl δ v L.length _ ho ⟨b,0,none⟩ 1 c (VC (nd,s)) rfl (fun j u hj=>by
  have ad:(⟨b,0,none⟩:Addr).add j=⟨b,j,none⟩:=by unfold Addr.add;split <;> simp_all
  rw[ad]
  match j,hj with
  |0,hj=>simp[VC]at hj;rw[←hj];exact hc.1
  |1,hj=>simp[VC]at hj;rw[←hj];exact hc.2.1
  |2,hj=>simp[VC]at hj;rw[←hj];exact hc.2.2.1
  |3,hj=>simp[VC]at hj;rw[←hj];exact hc.2.2.2
  |j+4,hj=>simp[VC]at hj) (by intro u hu;simp[VC]at hu;rcases hu with rfl|rfl|rfl|rfl <;> first|rfl|(rw[e2];rfl)) (by unfold maxLen;omega) ω (Nat.zero_le _)
 refine⟨v',w',hrun,⟨ps++[(nd,s)],by rw[List.map_append,e1];rfl,by rw[List.length_append,List.flatMap_append];simpa using r1,fun p hp=>?_⟩,r2,r3⟩;rcases List.mem_append.1 hp with hp|hp
 ·exact(hf p hp).keep fun b hb=>r2.block b (hS b hb).1 (hS b hb).2
 ·simp only[List.mem_singleton]at hp;subst hp;exact h2.keep fun b hb=>r2.block b (hS b hb).1 (hS b hb).2
theorem Eg{o:Oper}{a:Act}{w:World}{K:Act→World→Prop}{Q:Exit→Act→World→Prop}(s x:Operand)
 (ho:o.op=.call { callee:=.builtin .append,args:=#[s,x],argTypes:=#[22,22] }) (S:Nat→Prop) (v:Value) (L:List Nd) (b c:Nat) (nd:Nd) (sv:Value) (hs:a.eval s=v) (hx:a.eval x=ς (some ⟨b,0,none⟩) 1 c)
 (hc:w.cell? ⟨b,0,none⟩=some (ι γ nd.k)∧w.cell? ⟨b,1,none⟩=some (σ nd.x)∧w.cell? ⟨b,2,none⟩=some (σ nd.y)∧w.cell? ⟨b,3,none⟩=some sv) (h1:Zs w S v L) (h2:Fs w S sv nd.c)
 (hS:∀b,S b→b<w.heap.size∧some b≠v.ownBlock) (hlen:L.length≤1000000)
 (hK:∀v' w',Zs w' S v' (L++[nd])→w.grownBy w' v.ownBlock→(v'.ownBlock=v.ownBlock∨v'.ownBlock=some w.heap.size)→K (a.put o.dst v') w'):Oper.wp Tryz.prog o a w K Q:=by
 obtain⟨v',w',hrun,r1,r2,r3⟩:=Qh6 w o.type S v L b c nd sv hc h1 h2 hS hlen;unfold Oper.wp;simp[execOp,ho,resolve,invoke,builtin,hs,hx,hrun,Result.andThen];exact hK v' w' r1 r2 r3
def Ll(B:Nat)(W:World):Nat→Prop:=fun b=>B≤b∧b<W.heap.size
theorem Uq{B:Nat}{W W':World}{v:Value}{f:F}(h:Fs W (Ll B W) v f)(hb:Below W.heap.size W W'):Fs W' (Ll B W') v f :=
 (h.keep fun b hb'=>hb.block b hb'.2).more fun b hb'=>⟨hb'.1,VE hb'.2 hb.size⟩
def CS(w W:World)(v:Value):Nat→Prop:=fun b=>w.heap.size+3≤b∧b<W.heap.size∧some b≠v.ownBlock
structure Ss(w W:World)(k:Int)(x y:ByteArray)(A:Option Addr)(n C:Nat)(vb v:Value)(L:List Nd):Prop where
 QF:Below w.heap.size w W
 b1:Boxed W w.heap.size k x y (ς A n C)
 b2:Boxed W (w.heap.size+1) 0 ⟨#[]⟩ ⟨#[]⟩ (ς none 0 0)
 b3:Boxed W (w.heap.size+2) k x y vb
 o:Zs W (CS w W v) v L
 d:∀g,v.ownBlock=some g→w.heap.size+3≤g
theorem Uo(w:World)(g i:Nat)(v:Value):w.grownBy (w.setCell ⟨g,i,none⟩ v) (some g):=by
 have h:=(Below.refl 0 w).setCell (p:=⟨g,i,none⟩) (Nat.zero_le _) v;refine⟨h.os,h.tape,h.output,h.size,fun k _ hne=>?_⟩;exact Below.heap_setCell _ _ _ _ (fun e=>hne (by rw[e]))
section
variable {w W W':World}{k:Int}{x y:ByteArray}{A:Option Addr}{n C:Nat}{vb v v':Value}{L:List Nd}{nd:Nd}
theorem Ss.later(h:Ss w W k x y A n C vb v L)(hb:Below W.heap.size W W'):Ss w W' k x y A n C vb v L :=
 ⟨h.QF.trans (hb.mono h.QF.size),h.b1.below hb h.b1.lt,h.b2.below hb h.b2.lt,h.b3.below hb h.b3.lt,(h.o.later hb fun b hb'=>hb'.2.1).more fun b hb'=>⟨hb'.1,VE hb'.2.1 hb.size,hb'.2.2⟩,h.d⟩
theorem Ss.app(h:Ss w W k x y A n C vb v L)(ho:Zs W' (CS w W v) v' (L++[nd]))(hg:W.grownBy W' v.ownBlock)(hv:v'.ownBlock=v.ownBlock∨v'.ownBlock=some W.heap.size):Ss w W' k x y A n C vb v' (L++[nd]):=by
 have q1:=h.b1.lt;have q2:=h.b2.lt;have q3:=h.b3.lt;refine⟨h.QF.trans (UL hg h.QF.size fun g e=>Nat.le_trans ω (h.d g e)),(hg.block _ q1 fun e=>by have:=h.d _ e.symm;omega).trans h.b1,(hg.block _ q2 fun e=>by have:=h.d _ e.symm;omega).trans h.b2,(hg.block _ q3 fun e=>by have:=h.d _ e.symm;omega).trans h.b3,ho.more fun b hb=>⟨hb.1,VE hb.2.1 hg.size,fun e=>?_⟩,fun g e=>?_⟩
 ·rcases hv with hv|hv
  ·exact hb.2.2 (e.trans hv)
  ·rw[hv]at e;obtain rfl:=Option.some.inj e;exact Nat.lt_irrefl _ hb.2.1
 ·rcases hv with hv|hv
  ·exact h.d g (hv ▸ e)
  ·rw[hv]at e;obtain rfl:=Option.some.inj e;omega
theorem Ss.set(h:Ss w W k x y A n C vb v L):Ss w (W.setCell ⟨w.heap.size+2,3,none⟩ v) k x y A n C v v L:=by
 have hg:=Uo W (w.heap.size+2) 3 v;refine⟨h.QF.setCell (p:=⟨w.heap.size+2,3,none⟩) (show w.heap.size≤w.heap.size+2 by omega) _,(Below.heap_setCell _ _ _ _ (show w.heap.size≠w.heap.size+2 by omega)).trans h.b1,(Below.heap_setCell _ _ _ _ (show w.heap.size+1≠w.heap.size+2 by omega)).trans h.b2,?_,(h.o.grown hg (.inr fun e=>by have:=h.d _ e;omega) fun b hb=>⟨hb.2.1,fun e=>by have:=Option.some.inj e;have:=hb.1;omega⟩).more fun b hb=>⟨hb.1,VE hb.2.1 hg.size,hb.2.2⟩,h.d⟩;have:=Z8 h.b3 3 v;unfold Boxed;simpa using this
end
def pB(w W:World)(v:Value)(L:List Nd):Prop:=Zs W (fun b=>w.heap.size≤b∧b<W.heap.size∧some b≠v.ownBlock) v L∧∀g,v.ownBlock=some g→w.heap.size≤g
theorem pB.fs{w W:World}{v:Value}{L:List Nd}(h:pB w W v L):Fs W (Ll w.heap.size W) v (YG L) :=
 h.1.fs (fun b hb=>⟨hb.1,hb.2.1⟩) fun g e=>⟨h.2 g e,h.1.lt e⟩
theorem Gw(p':Nd×Value):∀(ps:List (Nd×Value))(i:Nat),i<ps.length→
 ((((ps.flatMap VC).set (i*4) (ι γ p'.1.k)).set (i*4+1) (σ p'.1.x)).set (i*4+2) (σ p'.1.y)).set (i*4+3) p'.2=(ps.set i p').flatMap VC
 |[],i,h=>by simp at h
 |p::ps,0,h=>by simp[VC]
 |p::ps,i+1,h=>by
  have ih:=Gw p' ps i (by simpa using h)
  have e:∀(j:Nat)(l:List Value)(u:Value),(VC p++l).set (4+j) u=VC p++l.set j u:=fun j l u=>by
   rw[List.set_append,if_neg (by rw[Vn];omega),Vn,show 4+j-4=j by omega]
  rw[List.flatMap_cons,List.set_cons_succ,List.flatMap_cons,←ih,show(i+1)*4=4+i*4 by omega,show 4+i*4+1=4+(i*4+1)by omega,show 4+i*4+2=4+(i*4+2)by omega,show 4+i*4+3=4+(i*4+3)by omega,e,e,e,e]
theorem Zs.at_{w:World}{S:Nat→Prop}{A:Option Addr}{n c:Nat}{L:List Nd}(h:Zs w S (ς A n c) L){i:Nat}{nd:Nd}(hi:L[i]?=some nd) :
 ∃g s,A=some ⟨g,0,none⟩∧g<w.heap.size∧w.cell? ⟨g,i*4,none⟩=some (ι γ nd.k)∧w.cell? ⟨g,i*4+1,none⟩=some (σ nd.x)∧w.cell? ⟨g,i*4+2,none⟩=some (σ nd.y)∧w.cell? ⟨g,i*4+3,none⟩=some s∧Fs w S s nd.c:=by
 obtain⟨ps,h1,ho,hf⟩:=h;have hlen:ps.length=L.length:=by rw[←h1];simp
 have hil:i<L.length:=(List.getElem?_eq_some_iff.1 hi).1;obtain⟨p,hp⟩:∃p,ps[i]?=some p:=⟨_,List.getElem?_eq_getElem ω⟩;have GZ:p.1=nd:=by
  have:(ps.map (·.1))[i]?=some p.1:=by rw[List.getElem?_map,hp];rfl
  rw[h1,hi]at this;exact(Option.some.inj this).symm
 rcases ho.2 with⟨_,h0⟩|⟨g,cap,cur,hv,hg0,hg,q1,q2,q3,q4⟩
 ·omega
 ·injection hv with e1 e2 e3;have hc:=ho.cells (g:=g) (by rw[e1];rfl);have ad:∀j,(⟨g,0,none⟩:Addr).add j=⟨g,j,none⟩:=fun j=>by unfold Addr.add;split <;> simp_all
  have at_:∀j u,(VC p)[j]? = some u→w.cell? ⟨g,i*4+j,none⟩=some u:=fun j u hu=>by
   have:=hc (i*4+j) u (Lm.Uz (sz:=4) Vn ps i p hp j u hu);rwa[ad]at this
  refine⟨g,p.2,e1,lt_of_block hg,?_,?_,?_,?_,?_⟩
  ·have:=at_ 0 _ rfl;rwa[GZ]at this
  ·have:=at_ 1 _ rfl;rwa[GZ]at this
  ·have:=at_ 2 _ rfl;rwa[GZ]at this
  ·exact at_ 3 _ rfl
  ·have:=hf p (List.mem_of_getElem? hp);rwa[GZ]at this
def KD(w:World)(g i:Nat)(k:Int)(x y:ByteArray)(s:Value):World:=(((w.setCell ⟨g,i*4,none⟩ (ι γ k)).setCell ⟨g,i*4+1,none⟩ (σ x)).setCell ⟨g,i*4+2,none⟩ (σ y)).setCell ⟨g,i*4+3,none⟩ s
theorem El(w:World)(g i:Nat)(k:Int)(x y:ByteArray)(s:Value):w.grownBy (KD w g i k x y s) (some g):=by
 have hb:Below 0 w (KD w g i k x y s):=by unfold KD;exact((((Below.refl 0 w).setCell (Nat.zero_le _) _).setCell (Nat.zero_le _) _).setCell (Nat.zero_le _) _).setCell (Nat.zero_le _) _
 refine⟨hb.os,hb.tape,hb.output,hb.size,fun b _ hne=>?_⟩;have CR:b≠g:=fun e=>hne (by rw[e])
 unfold KD;rw[Below.heap_setCell _ _ _ _ CR,Below.heap_setCell _ _ _ _ CR,Below.heap_setCell _ _ _ _ CR,Below.heap_setCell _ _ _ _ CR]
theorem Zs.put{w:World}{S:Nat→Prop}{g n c:Nat}{L:List Nd}(h:Zs w S (ς (some ⟨g,0,none⟩) n c) L)(i:Nat)(hi:i<L.length)(k:Int)(x y:ByteArray)(s:Value)(c':F)(hf:Fs w S s c')(hS:∀b,S b→b<w.heap.size∧b≠g) :
 Zs (KD w g i k x y s) S (ς (some ⟨g,0,none⟩) n c) (L.set i ⟨k,x,y,c'⟩):=by
 obtain⟨ps,e1,ho,VX⟩:=h;obtain⟨a',c'',e,_,_⟩:=Q0 ho;injection e with _ e2 _;subst e2;have hlen:ps.length=L.length:=by rw[←e1];simp
 have r1:=(ho.stored (i*4) (ι γ k)).1;have r2:=(r1.stored (i*4+1) (σ x)).1;have r3:=(r2.stored (i*4+2) (σ y)).1;have r4:=(r3.stored (i*4+3) s).1;rw[Gw (⟨k,x,y,c'⟩,s) ps i ω]at r4;have hg:=El w g i k x y s;have keep:∀{v:Value}{f:F},Fs w S v f→Fs (KD w g i k x y s) S v f:=fun hv=>hv.keep fun b hb=>hg.block b (hS b hb).1 (fun e=>(hS b hb).2 (Option.some.inj e))
 refine⟨ps.set i (⟨k,x,y,c'⟩,s),by rw[List.map_set,e1],by rw[List.length_set];exact r4,fun p hp=>?_⟩;rcases List.mem_or_eq_of_mem_set hp with hp|rfl
 ·exact keep (VX p hp)
 ·exact keep hf
theorem Qwu(w:World){ops:Array Oper}{rest:List Oper}{o:Oper}{a:Act}{Q:Exit→Act→World→Prop}(hgd:o.guard=none)(s x:Operand)
 (ho:o.op=.call { callee:=.builtin .append,args:=#[s,x],argTypes:=#[22,22] }) (B base:Nat) (v:Value) (L1:List Nd) (ad:Addr) (c:Nat) (hs:a.eval s=v) (hx:a.eval x=ς (some ad) 0 c)
 (h1:K3 w B base v L1) (hB:B≤base) (hbase:base≤w.heap.size) (hlen:L1.length≤1000000)
 (h:∀v' w',K3 w' B base v' L1→Below base w w'→wpList prog ops Q rest (a.put o.dst v') w'):wpList prog ops Q (o::rest) a w:=by
 obtain⟨i0,hi0,hz0,hz1,hz2⟩:=info_parts Jz;obtain⟨jE,e1,XD,Pe⟩:=h1;refine wpList_append_own_at (P:=prog) w hgd s x 22 ho base 24 i0 (ξ #[ι γ 0,σ ⟨#[]⟩,σ ⟨#[]⟩,ς none 0 0]) 4 64 underlying22 hi0 hz0 hz1 hz2 rfl δ v L1.length _ hs XD ad 0 c [] hx rfl (fun j u hu=>by simp at hu) (fun u hu=>by cases hu) (by unfold maxLen;omega) ω hbase fun v' w' r1 r2 _ _=>?_
 have hbl:Below base w w':=(Below.refl _ _).grown r2 hbase (fun k hk=>(XD.lt k hk).1);exact h v' w' ⟨jE,e1,by simpa using r1,fun p hp=>(Pe p hp).below hbl hB⟩ hbl
theorem K3.owns{w:World}{B base:Nat}{v:Value}{L:List Nd}(h:K3 w B base v L):Zs w (Lo B) v L∧∀g,v.ownBlock=some g→base≤g:=by
 obtain⟨ps,e,ho,hf⟩:=h;refine⟨⟨ps,e,⟨ho.1,?_⟩,hf⟩,fun g hg=>(ho.lt g hg).1⟩;rcases ho.2 with h' |⟨g,cap,cur,h1,h2,h3⟩
 ·exact .inl h'
 ·exact .inr ⟨g,cap,cur,h1,Nat.zero_le _,h3⟩
theorem Qk6(w:World)(B:Nat):K3 (w.alloc (θ #[] 24)) B w.heap.size (ς (some ⟨w.heap.size,0,none⟩) 0 0) [] :=
 ⟨[],rfl,World.ownsRow_lit w #[] 0 (Nat.le_refl _) (Nat.zero_le _) rfl,fun p hp=>by cases hp⟩
def Qp7(B:Nat)(w:World)(c:F)(e:Ending)(w':World):Prop:=Below w.heap.size w w'∧∃(Ar:Option Addr)(nr Cr:Nat),e=ρ (ς Ar nr Cr)∧Zs w' (Lo B) (ς Ar nr Cr) (KH c)∧∀g,(ς Ar nr Cr).ownBlock=some g→w.heap.size≤g
theorem Qf6(B:Nat)(A:Option Addr)(n C:Nat)(c:F)(w:World)(hf:Fs w (Lo B) (ς A n C) c)(hBw:B≤w.heap.size)(hlen:c.len≤1000000) :
 Calls prog 78 #[ς A n C] w fun e w'=>Qp7 B w c e w':=by
 cases A with
 |none =>
  have hc:c=.nil:=by
   cases c with
   |nil=>rfl
   |cons k x y c r=>obtain⟨b,off,n',C',s,e,_⟩:=hf;injection e with e1 _ _;cases e1
  subst hc;obtain⟨A',C',e,hC⟩:=hf;injection e with e1 e2 e3;subst e2;have HB:=QA (Below.refl w.heap.size w);clear e1 e3 hlen;have hnil:∀W:World,(binOp .eql 22 (ς none 0 C) (ς none 0 0)).run prog W=.ok (τ true) W:=fun _=>rfl
  go_enter func78,ntmps78;go_wp2;go_ret;exact⟨HB.out,none,0,0,rfl,Zs.nil _ _,fun g e=>by cases e⟩
 |some ad =>
  have b1:=Qa w (θ #[] 24);have HO:=QA (Qk6 w B);have Z':=QA b1;obtain⟨A',C',e,Ld,RS⟩:=hf.slice;injection e with e1 e2 e3;have hn:n≤1000000:=ω
  have XO:Hid (w.heap.size≤(w.alloc (θ #[] 24)).heap.size):=b1.size;cases c with
  |nil =>
   have hn0:n=0:=e2;subst hn0;clear e1 e2 e3 hlen hf b1 hn Ld RS;have hnil:∀W:World,(binOp .eql 22 (ς (some ad) 0 C) (ς none 0 0)).run prog W=.ok (τ false) W:=fun _=>rfl
   go_enter func78,ntmps78;go_wp2_with (at_builtin;refine Qwu _ rfl _ _ rfl B w.heap.size _ [] ad C rfl rfl HO.out hBw XO.out ψ ?_);intro v3 w3 UY hb3;obtain⟨a3,c3,rfl,_,_⟩:=UY.slice;have HE:=QA UY.owns;have VG:=QA (Z'.out.trans hb3);clear UY hb3;go_wp2;go_ret;exact⟨VG.out,a3,_,c3,rfl,HE.out.1,HE.out.2⟩
  |cons k x y c r =>
   have had:∃b off,ad=⟨b,off,none⟩:=by obtain⟨b,off,n',C',s,e,_⟩:=hf;injection e with q1 _ _;exact⟨b,off,Option.some.inj q1⟩
   obtain⟨b,off,rfl⟩:=had;have HF:=QA (hf.below b1 hBw);clear e1 e2 e3 hlen hf b1 Ld RS;have hnil:∀W:World,(binOp .eql 22 (ς (some ⟨b,off,none⟩) n C) (ς none 0 0)).run prog W=.ok (τ false) W:=fun _=>rfl
   go_enter func78,ntmps78;go_wp2_with (at_builtin;refine Ā _ rfl _ _ rfl B w.heap.size _ [] _ b off n C rfl rfl HO.out HF.out hBw XO.out (by simpa using hn) ?_);intro v3 w3 UY hb3;obtain⟨a3,c3,rfl,_,_⟩:=UY.slice;have HE:=QA UY.owns;have VG:=QA (Z'.out.trans hb3);obtain⟨m3,Nt⟩:∃m,(KH (.cons k x y c r)).length=m:=⟨_,rfl⟩;rw[Nt]at HE⊢;clear UY hb3 Nt;go_wp2;go_ret;exact⟨VG.out,a3,_,c3,rfl,HE.out.1,HE.out.2⟩
