import Derived.Test.YtaiihnniblibaaaGreatDoorG20
import Derived.Laws.OwnMore
set_option maxHeartbeats 4000000
set_option linter.unusedVariables false
open Go.Proofs.Tryz Go.ChangeShapes Go.WideShapes Go.ChangeAt Go.RowKit
open _root_.Nat renaming le_refl→QH,lt_of_lt_of_le→JQ,le_trans→VJ
open Go.Value renaming string→σ,int→ι,slice→ς,pointer→π,bool→τ,agg→ξ
open Go.IntKind renaming i64→κ
open Go.Obj renaming cells→θ
open Go.Ending renaming returned→ρ
namespace Go.Proofs.YtaiihnniblibaaaGreatDoor
namespace QB
open Tree ZR Mem
theorem xn(p:Nd×Value):(Kz p).length=4:=rfl
theorem Gv{w:World}{base:Nat}{e:TypeId}{size n:Nat}{v:Value}{xs:List Value}(h:w.ownsRow base e size v n xs):∃a c,v=ς a n c∧n≤c∧c≤maxLen:=by
 rcases h.2 with⟨rfl,rfl⟩|⟨g,cap,cur,rfl,_,_,h1,h2,_⟩
 ·exact⟨none,0,rfl,QH _,Nat.zero_le _⟩
 ·exact⟨_,_,rfl,h1,h2⟩
def V7(w:World)(S:Nat→Prop)(v:Value)(L:List Nd):Prop :=
 ∃ps:List (Nd×Value),ps.map (·.1)=L∧w.ownsRow 0 24 4 v L.length (ps.flatMap Kz)∧∀p∈ps,Fs w S p.2 p.1.c
theorem V7.nil(w:World)(S:Nat→Prop):V7 w S (ς none 0 0) []:=⟨[],rfl,World.ownsRow_nil _ _ _ _,fun p hp=>by cases hp⟩
theorem V7.slice{w:World}{S:Nat→Prop}{v:Value}{L:List Nd}(h:V7 w S v L):∃a c,v=ς a L.length c∧L.length≤c∧c≤maxLen:=by
 obtain⟨ps,_,ho,_⟩:=h;exact Gv ho
theorem V7.lt{w:World}{S:Nat→Prop}{v:Value}{L:List Nd}(h:V7 w S v L){g:Nat}(hg:v.ownBlock=some g):g<w.heap.size:=by
 obtain⟨ps,_,ho,_⟩:=h;exact(ho.lt g hg).2
theorem V7.grown{w w':World}{S:Nat→Prop}{v:Value}{L:List Nd}{row:Option Nat}(h:V7 w S v L)(hg:w.grownBy w' row)(hne:v.ownBlock=none∨v.ownBlock≠row)(hS:∀b,S b→b<w.heap.size∧some b≠row):V7 w' S v L:=by
 obtain⟨ps,e,ho,hf⟩:=h;exact⟨ps,e,ho.kept hg hne,fun p hp=>(hf p hp).keep fun b hb=>hg.block b (hS b hb).1 (hS b hb).2⟩
theorem V7.more{w:World}{S S':Nat→Prop}{v:Value}{L:List Nd}(h:V7 w S v L)(hS:∀b,S b→S' b):V7 w S' v L:=by
 obtain⟨ps,e,ho,hf⟩:=h;exact⟨ps,e,ho,fun p hp=>(hf p hp).more hS⟩
theorem Ey{w w':World}(h:Below w.heap.size w w')(row:Option Nat):w.grownBy w' row:=⟨h.os,h.tape,h.output,h.size,fun k hk _=>h.block k hk⟩
theorem XB{w w':World}{B:Nat}{row:Option Nat}(h:w.grownBy w' row)(hB:B≤w.heap.size)(hr:∀k,row=some k→B≤k):Below B w w' :=
 ⟨h.os,h.tape,h.output,h.size,fun k hk=>h.block k (JQ hk hB) (fun e=>by have:=hr k e.symm;omega)⟩
theorem V7.later{w w':World}{S:Nat→Prop}{v:Value}{L:List Nd}(h:V7 w S v L)(hb:Below w.heap.size w w')(hS:∀b,S b→b<w.heap.size):V7 w' S v L:=by
 cases hv:v.ownBlock with
 |none=>exact h.grown (Ey hb none) (.inl hv) (fun b XP=>⟨hS b XP,by simp⟩)
 |some g=>exact h.grown (Ey hb none) (.inr (by simp[hv])) (fun b XP=>⟨hS b XP,by simp⟩)
theorem Qkf(w:World)(ty:TypeId)(S:Nat→Prop)(v:Value)(L:List Nd)(b c:Nat)(nd:Nd)(s:Value)
  (hc:w.cell? ⟨b,0,none⟩=some (ι κ nd.k)∧w.cell? ⟨b,1,none⟩=some (σ nd.x)∧w.cell? ⟨b,2,none⟩=some (σ nd.y)∧w.cell? ⟨b,3,none⟩=some s) (h1:V7 w S v L) (h2:Fs w S s nd.c)
  (hS:∀b,S b→b<w.heap.size∧some b≠v.ownBlock) (hlen:L.length≤10000000) :
  ∃v' w',(Builtin.append_ #[22,22] ty #[v,ς (some ⟨b,0,none⟩) 1 c]).run prog w=.ok v' w'∧V7 w' S v' (L++[nd])∧w.grownBy w' v.ownBlock∧(v'.ownBlock=v.ownBlock∨v'.ownBlock=some w.heap.size):=by
 obtain⟨i0,hi0,hz0,hz1,hz2⟩:=zf;obtain⟨ps,e1,ho,hf⟩:=h1;obtain⟨A2,C2,e2,_,_⟩:=h2.slice;have hmul:(L.length+1)*64≤10000001*64:=Nat.mul_le_mul (by omega) (QH _)
 obtain⟨v',w',hrun,r1,r2,_,r3⟩:=run_append_own_at (P:=prog) w 0 22 ty 24 i0 _ 4 64 underlying22 hi0 hz0 hz1 hz2 rfl (by decide) v L.length _ ho ⟨b,0,none⟩ 1 c (Kz (nd,s)) rfl (fun j u hj=>by
  have ad:(⟨b,0,none⟩:Addr).add j=⟨b,j,none⟩:=by unfold Addr.add;split <;> simp_all
  rw[ad]
  match j,hj with
  |0,hj=>simp[Kz]at hj;rw[←hj];exact hc.1
  |1,hj=>simp[Kz]at hj;rw[←hj];exact hc.2.1
  |2,hj=>simp[Kz]at hj;rw[←hj];exact hc.2.2.1
  |3,hj=>simp[Kz]at hj;rw[←hj];exact hc.2.2.2
  |j+4,hj=>simp[Kz]at hj) (by intro u hu;simp[Kz]at hu;rcases hu with rfl|rfl|rfl|rfl <;> first|rfl|(rw[e2];rfl)) (by unfold maxLen;omega) (by omega) (Nat.zero_le _)
 refine⟨v',w',hrun,⟨ps++[(nd,s)],by rw[List.map_append,e1];rfl,by rw[List.length_append,List.flatMap_append];simpa using r1,fun p hp=>?_⟩,r2,r3⟩;rcases List.mem_append.1 hp with hp|hp
 ·exact(hf p hp).keep fun b hb=>r2.block b (hS b hb).1 (hS b hb).2
 ·simp only[List.mem_singleton]at hp;subst hp;exact h2.keep fun b hb=>r2.block b (hS b hb).1 (hS b hb).2
theorem Kj{o:Oper}{a:Act}{w:World}{K:Act→World→Prop}{Q:Exit→Act→World→Prop}(s x:Operand)
  (ho:o.op=.call { callee:=.builtin .append,args:=#[s,x],argTypes:=#[22,22] }) (S:Nat→Prop) (v:Value) (L:List Nd) (b c:Nat) (nd:Nd) (sv:Value) (hs:a.eval s=v) (hx:a.eval x=ς (some ⟨b,0,none⟩) 1 c)
  (hc:w.cell? ⟨b,0,none⟩=some (ι κ nd.k)∧w.cell? ⟨b,1,none⟩=some (σ nd.x)∧w.cell? ⟨b,2,none⟩=some (σ nd.y)∧w.cell? ⟨b,3,none⟩=some sv) (h1:V7 w S v L) (h2:Fs w S sv nd.c)
  (hS:∀b,S b→b<w.heap.size∧some b≠v.ownBlock) (hlen:L.length≤10000000)
  (hK:∀v' w',V7 w' S v' (L++[nd])→w.grownBy w' v.ownBlock→(v'.ownBlock=v.ownBlock∨v'.ownBlock=some w.heap.size)→K (a.put o.dst v') w'):Oper.wp prog o a w K Q:=by
 obtain⟨v',w',hrun,r1,r2,r3⟩:=Qkf w o.type S v L b c nd sv hc h1 h2 hS hlen;unfold Oper.wp;simp[execOp,ho,resolve,invoke,builtin,hs,hx,hrun,Result.andThen];exact hK v' w' r1 r2 r3
theorem Qex{ops:Array Oper}{rest:List Oper}{o:Oper}{a:Act}{w:World}{Q:Exit→Act→World→Prop}(hgd:o.guard=none)(s x:Operand)
  (ho:o.op=.call { callee:=.builtin .append,args:=#[s,x],argTypes:=#[22,22] }) (S:Nat→Prop) (v:Value) (L:List Nd) (b c:Nat) (nd:Nd) (sv:Value) (hs:a.eval s=v) (hx:a.eval x=ς (some ⟨b,0,none⟩) 1 c)
  (hc:w.cell? ⟨b,0,none⟩=some (ι κ nd.k)∧w.cell? ⟨b,1,none⟩=some (σ nd.x)∧w.cell? ⟨b,2,none⟩=some (σ nd.y)∧w.cell? ⟨b,3,none⟩=some sv) (h1:V7 w S v L) (h2:Fs w S sv nd.c)
  (hS:∀b,S b→b<w.heap.size∧some b≠v.ownBlock) (hlen:L.length≤10000000)
  (h:∀v' w',V7 w' S v' (L++[nd])→w.grownBy w' v.ownBlock→(v'.ownBlock=v.ownBlock∨v'.ownBlock=some w.heap.size)→wpList prog ops Q rest (a.put o.dst v') w'):wpList prog ops Q (o::rest) a w:=by
 refine wpList_plain hgd fun K hK=>?_
 exact Kj s x ho S v L b c nd sv hs hx hc h1 h2 hS hlen fun v' w' r1 r2 r3=>hK _ _ (h v' w' r1 r2 r3)
theorem rQ(p':Nd×Value):∀(ps:List (Nd×Value))(i:Nat),i<ps.length→
  ((((ps.flatMap Kz).set (i*4) (ι κ p'.1.k)).set (i*4+1) (σ p'.1.x)).set (i*4+2) (σ p'.1.y)).set (i*4+3) p'.2=(ps.set i p').flatMap Kz
 |[],i,h=>by simp at h
 |p::ps,0,h=>by simp[Kz]
 |p::ps,i+1,h=>by
  have ih:=rQ p' ps i (by simpa using h)
  have e:∀(j:Nat)(l:List Value)(u:Value),(Kz p++l).set (4+j) u=Kz p++l.set j u:=fun j l u=>by
   rw[List.set_append,if_neg (by rw[xn];omega),xn,show 4+j-4=j by omega]
  rw[List.flatMap_cons,List.set_cons_succ,List.flatMap_cons,←ih,show(i+1)*4=4+i*4 by omega,show 4+i*4+1=4+(i*4+1)by omega,show 4+i*4+2=4+(i*4+2)by omega,show 4+i*4+3=4+(i*4+3)by omega,e,e,e,e]
theorem V7.at_{w:World}{S:Nat→Prop}{A:Option Addr}{n c:Nat}{L:List Nd}(h:V7 w S (ς A n c) L){i:Nat}{nd:Nd}(hi:L[i]?=some nd) :
  ∃g s,A=some ⟨g,0,none⟩∧g<w.heap.size∧w.cell? ⟨g,i*4,none⟩=some (ι κ nd.k)∧w.cell? ⟨g,i*4+1,none⟩=some (σ nd.x)∧w.cell? ⟨g,i*4+2,none⟩=some (σ nd.y)∧w.cell? ⟨g,i*4+3,none⟩=some s∧Fs w S s nd.c:=by
 obtain⟨ps,h1,ho,hf⟩:=h;have hlen:ps.length=L.length:=by rw[←h1];simp
 have hil:i<L.length:=(List.getElem?_eq_some_iff.1 hi).1;obtain⟨p,hp⟩:∃p,ps[i]?=some p:=⟨_,List.getElem?_eq_getElem (by omega)⟩;have SQ:p.1=nd:=by
  have:(ps.map (·.1))[i]?=some p.1:=by rw[List.getElem?_map,hp];rfl
  rw[h1,hi]at this;exact(Option.some.inj this).symm
 rcases ho.2 with⟨_,h0⟩|⟨g,cap,cur,hv,hg0,hg,q1,q2,q3,q4⟩
 ·omega
 ·injection hv with e1 e2 e3;have hc:=ho.cells (g:=g) (by rw[e1];rfl);have ad:∀j,(⟨g,0,none⟩:Addr).add j=⟨g,j,none⟩:=fun j=>by unfold Addr.add;split <;> simp_all
  have at_:∀j u,(Kz p)[j]? = some u→w.cell? ⟨g,i*4+j,none⟩=some u:=fun j u hu=>by
   have:=hc (i*4+j) u (ZR.qI (sz:=4) xn ps i p hp j u hu);rwa[ad]at this
  refine⟨g,p.2,e1,lt_of_block hg,?_,?_,?_,?_,?_⟩
  ·have:=at_ 0 _ rfl;rwa[SQ]at this
  ·have:=at_ 1 _ rfl;rwa[SQ]at this
  ·have:=at_ 2 _ rfl;rwa[SQ]at this
  ·exact at_ 3 _ rfl
  ·have:=hf p (List.mem_of_getElem? hp);rwa[SQ]at this
def SC(w:World)(g i:Nat)(k:Int)(x y:ByteArray)(s:Value):World:=(((w.setCell ⟨g,i*4,none⟩ (ι κ k)).setCell ⟨g,i*4+1,none⟩ (σ x)).setCell ⟨g,i*4+2,none⟩ (σ y)).setCell ⟨g,i*4+3,none⟩ s
theorem Gs(w:World)(g i:Nat)(k:Int)(x y:ByteArray)(s:Value):w.grownBy (SC w g i k x y s) (some g):=by
 have hb:Below 0 w (SC w g i k x y s):=by unfold SC;exact((((Below.refl 0 w).setCell (Nat.zero_le _) _).setCell (Nat.zero_le _) _).setCell (Nat.zero_le _) _).setCell (Nat.zero_le _) _
 refine⟨hb.os,hb.tape,hb.output,hb.size,fun b _ hne=>?_⟩;have Mj:b≠g:=fun e=>hne (by rw[e])
 unfold SC;rw[Below.heap_setCell _ _ _ _ Mj,Below.heap_setCell _ _ _ _ Mj,Below.heap_setCell _ _ _ _ Mj,Below.heap_setCell _ _ _ _ Mj]
theorem V7.put{w:World}{S:Nat→Prop}{g n c:Nat}{L:List Nd}(h:V7 w S (ς (some ⟨g,0,none⟩) n c) L)(i:Nat)(hi:i<L.length)(k:Int)(x y:ByteArray)(s:Value)(c':F)(hf:Fs w S s c')(hS:∀b,S b→b<w.heap.size∧b≠g) :
  V7 (SC w g i k x y s) S (ς (some ⟨g,0,none⟩) n c) (L.set i ⟨k,x,y,c'⟩):=by
 obtain⟨ps,e1,ho,jd⟩:=h;obtain⟨a',c'',e,_,_⟩:=Gv ho;injection e with _ e2 _;subst e2;have hlen:ps.length=L.length:=by rw[←e1];simp
 have r1:=(ho.stored (i*4) (ι κ k)).1;have r2:=(r1.stored (i*4+1) (σ x)).1;have r3:=(r2.stored (i*4+2) (σ y)).1;have r4:=(r3.stored (i*4+3) s).1;rw[rQ (⟨k,x,y,c'⟩,s) ps i (by omega)]at r4;have hg:=Gs w g i k x y s;have keep:∀{v:Value}{f:F},Fs w S v f→Fs (SC w g i k x y s) S v f:=fun hv=>hv.keep fun b hb=>hg.block b (hS b hb).1 (fun e=>(hS b hb).2 (Option.some.inj e))
 refine⟨ps.set i (⟨k,x,y,c'⟩,s),by rw[List.map_set,e1],by rw[List.length_set];exact r4,fun p hp=>?_⟩;rcases List.mem_or_eq_of_mem_set hp with hp|rfl
 ·exact keep (jd p hp)
 ·exact keep hf
def kE(w:World)(v:Value)(us:List ByteArray):Prop:=∃A C,v=ς A us.length C∧us.length≤100∧(us=[]∨∃g,A=some ⟨g,0,none⟩∧∀j u,us[j]?=some u→w.cell? ⟨g,j,none⟩=some (σ u))
def Rb(us:List ByteArray)(x:ByteArray):Bool:=us.any fun u=>x.toList==u.toList
theorem Qqv(us:List ByteArray)(v:Value)(x:ByteArray)(w:World)(h:kE w v us) :
  Calls prog 65 #[v,σ x] w fun e w'=>(∃r:Int,e=ρ (ι κ r)∧decide (0≤r)=Rb us x)∧w'=w:=by
 obtain⟨A,C,rfl,hn,hc⟩:=h;obtain⟨n,hN⟩:=Mem.ZB (us.length);rw[hN]at hn⊢;have HC:=Lib.hid hc;clear hc;go_enter func65,ntmps65;go_wp2
 go_loopg [8] (n+1) (fun p s8 wr=>∃i:Nat,i≤n∧n-i<p∧s8=ι κ (i:Int)∧wr=w∧Hid (Rb us x=Rb (us.drop i) x))
 case atStart=>exact⟨0,by omega,by omega,rfl,rfl,rfl⟩
 case round =>
  obtain⟨i,hi,hp,rfl,rfl,HI⟩:=hrel;by_cases hin:i<n
  ·have hlt:(i:Int)<(n:Int):=by omega
   have hex:∃u,us[i]?=some u:=⟨_,List.getElem?_eq_getElem (by omega)⟩;obtain⟨u,hu⟩:=hex;have hd:us.drop i=u::us.drop (i+1):=by
    rw[List.drop_eq_getElem_cons (by omega)]
    congr 1
    have:=List.getElem?_eq_getElem (l:=us) (i:=i) (by omega);rw[hu]at this;exact(Option.some.inj this).symm
   have h1:Rb (us.drop i) x=((x.toList==u.toList)||Rb (us.drop (i+1)) x):=by rw[hd];rfl
   rcases HC.out with he|⟨g,rfl,hg⟩
   ·rw[he]at hN;simp at hN;omega
   have hcell:=hg i u hu;clear hg;obtain⟨bb,hb⟩:=Mem.ZB ((x.toList==u.toList));rw[hb]at h1;have HB:=Lib.hid hb;cases bb with
   |true =>
    have hall:Hid (Rb us x=true):=by show _=_;rw[HI.out,h1];rfl
    clear h1 hd hu;go_wp2;go_ret;have hr:decide ((0:Int)≤(i:Int))=Rb us x:=by rw[hall.out];simp
    exact⟨⟨_,rfl,hr⟩,rfl⟩
   |false =>
    have hall:Hid (Rb us x=Rb (us.drop (i+1)) x):=by show _=_;rw[HI.out,h1];rfl
    clear h1 hd hu;go_wp2
    go_roundg (n-i)
    case rel=>exact⟨i+1,by omega,by omega,by simp,rfl,hall⟩
    case measure=>omega
  ·have hlt:¬(i:Int)<(n:Int):=by omega
   have hall:Hid (Rb us x=false):=by show _=_;rw[HI.out,List.drop_eq_nil_of_le (by omega)];rfl
   go_wp2;go_ret;have hr:decide ((0:Int)≤-1)=Rb us x:=by rw[hall.out];rfl
   exact⟨⟨_,rfl,hr⟩,rfl⟩
theorem cA(us:List ByteArray)(v:Value)(x:ByteArray)(w:World)(h:kE w v us) :
  Calls prog 46 #[v,σ x] w fun e w'=>e=ρ (τ (Rb us x))∧w'=w:=by
 have HI:=Lib.hid (Qqv us v x w h);obtain⟨A,C,rfl,hn,hc⟩:=h;generalize Rb us x=bb at HI⊢;clear hc;go_enter func46,ntmps46;go_wp2_with fail;refine HI.out.mono ?_;rintro e w' ⟨⟨r,rfl,hr⟩,rfl⟩;go_wp2;go_ret;exact⟨by rw[←hr];simp,rfl⟩
structure QU(P V B0 X:Nat)(w w':World):Prop where
 os:w'.os=w.os
 tape:w'.tape=w.tape
 output:w'.output=w.output
 size:w.heap.size≤w'.heap.size
 block:∀b,b<w.heap.size→(b<B0∨b=X)→b≠P→b≠V→w'.heap[b]?=w.heap[b]?
section
variable {P V B0 X:Nat}{w w' w2:World}
theorem QU.refl(P V B0 X:Nat)(w:World):QU P V B0 X w w:=⟨rfl,rfl,rfl,QH _,fun _ _ _ _ _=>rfl⟩
theorem QU.of(h:Below w.heap.size w w'):QU P V B0 X w w':=⟨h.os,h.tape,h.output,h.size,fun b hb _ _ _=>h.block b hb⟩
theorem QU.QS(h:ZM P w w'):QU P V B0 X w w':=⟨h.os,h.tape,h.output,h.size,fun b hb _ h1 _=>h.block b hb h1⟩
theorem QU.trans(h:QU P V B0 X w w')(k:QU P V B0 X w' w2):QU P V B0 X w w2 :=
 ⟨k.os.trans h.os,k.tape.trans h.tape,k.output.trans h.output,VJ h.size k.size,fun b hb h0 h1 h2=>(k.block b (JQ hb h.size) h0 h1 h2).trans (h.block b hb h0 h1 h2)⟩
theorem QU.VI(h:QU P V B0 X w.drew w'):QU P V B0 X w w':=⟨h.os,h.tape,h.output,h.size,h.block⟩
theorem QU.cell(h:QU P V B0 X w w'){p:Addr}(hp:p.block<w.heap.size)(h0:p.block<B0∨p.block=X)(h1:p.block≠P)(h2:p.block≠V):w'.cell? p=w.cell? p:=World.cell?_of_block (w:=w) (h.block p.block hp h0 h1 h2)
theorem QU.grown(h:w.grownBy w' (some V)):QU P V B0 X w w':=⟨h.os,h.tape,h.output,h.size,fun b hb _ _ h2=>h.block b hb (fun e=>h2 (Option.some.inj e))⟩
theorem QU.own{r:Option Nat}(h:w.grownBy w' r)(hr:∀g,r=some g→B0≤g∧g≠X):QU P V B0 X w w':=⟨h.os,h.tape,h.output,h.size,fun b hb h0 _ _=>h.block b hb (fun e=>by have:=hr b e.symm;omega)⟩
theorem QU.back{w0:World}(h0:ZM P w0 w)(h:QU P V B0 X w w')(hV:w0.heap.size≤V)(hB:w0.heap.size≤B0):ZM P w0 w' :=
 ⟨h.os.trans h0.os,h.tape.trans h0.tape,h.output.trans h0.output,VJ h0.size h.size,fun b hb hP=>(h.block b (JQ hb h0.size) (.inl (by omega)) hP (by omega)).trans (h0.block b hb hP)⟩
end
theorem Fm{w:World}{g:Nat}{cs:Array Value}{T:TypeId}(h:w.heap[g]?=some (θ cs T (0,0)))(i:Nat)(v:Value):(w.setCell ⟨g,i,none⟩ v).heap[g]?=some (θ (cs.setIfInBounds i v) T (0,0)):=by
 have hlt:=Jk h;have h':w.heap[g]=θ cs T (0,0):=by simpa[Array.getElem?_eq_getElem hlt]using h
 show(w.heap.modify g _)[g]?=_;rw[Array.getElem?_eq_getElem (by simpa using hlt),Array.getElem_modify_self,h'];simp
def Ra(w:World)(g:Nat)(v:Value):Prop:=w.heap[g]?=some (θ #[v] 22 (0,0))
theorem Ra.cell{w:World}{g:Nat}{v:Value}(h:Ra w g v):w.cell? ⟨g,0,none⟩=some v:=by
 unfold Ra at h;simp[World.cell?,h]
theorem Ra.VD{w:World}{g:Nat}{v:Value}(h:Ra w g v):w.frozen? ⟨g,0,none⟩=false:=by
 unfold Ra at h;simp[World.frozen?,h]
theorem Ra.lt{w:World}{g:Nat}{v:Value}(h:Ra w g v):g<w.heap.size:=Jk h
theorem Ra.set{w:World}{g:Nat}{v:Value}(h:Ra w g v)(u:Value):Ra (w.setCell ⟨g,0,none⟩ u) g u:=by
 have:=Fm h 0 u;unfold Ra;simpa using this
theorem Xe(w:World)(V:Nat)(u:Value):w.grownBy (w.setCell ⟨V,0,none⟩ u) (some V):=by
 have hb:Below 0 w (w.setCell ⟨V,0,none⟩ u):=(Below.refl 0 w).setCell (Nat.zero_le _) _;exact⟨hb.os,hb.tape,hb.output,hb.size,fun b _ hne=>Below.heap_setCell _ _ _ _ (fun e=>hne (by rw[e]))⟩
def zN:Nd:=⟨0,⟨#[]⟩,⟨#[]⟩,.nil⟩
def Kd(B0:Nat)(W:World)(u:Value):Nat→Prop:=fun b=>B0≤b∧b<W.heap.size∧some b≠u.ownBlock
def AW(B0:Nat)(W:World)(u v:Value)(n:Nd):Prop:=∃A C,v=ξ #[ι κ n.k,σ n.x,σ n.y,ς A n.c.len C]∧Fs W (Kd B0 W u) (ς A n.c.len C) n.c
structure EK(P z d V B0 X:Nat)(l:List Tk)(v:Value)(L:List Nd)(W:World):Prop where
 own:V7 W (Kd B0 W v) v L
 lo:∀g,v.ownBlock=some g→B0≤g∧g≠X
 box:Ra W V v
 ps:PS W P z l d
 ne:P<B0∧V<B0∧P<V∧B0≤W.heap.size∧X<W.heap.size
structure XT(P z d V B0 X:Nat)(l l2:List Tk)(n:Nd)(v:Value)(L:List Nd)(c i a e q r:Bool)(x4 x6 x7 x8:Value)(W:World):Prop where
 own:V7 W (Kd B0 W (bif a then x7 else v)) (bif a then x7 else v) (bif a then L++[bif q then n else zN]else L)
 lo:∀g,(bif a then x7 else v).ownBlock=some g→B0≤g∧g≠X
 box:Ra W V (bif r then x7 else v)
 ps:PS W P z (bif c then l2 else l) d
 nd:c=true→AW B0 W (bif a then x7 else v) x4 n
 row:i=true→a=false→∃b,x6=ς (some ⟨b,0,none⟩) 1 1∧B0≤b∧b<W.heap.size∧W.cell? ⟨b,0,none⟩=some (ι κ 0)∧W.cell? ⟨b,1,none⟩=some (σ ⟨#[]⟩)∧W.cell? ⟨b,2,none⟩=some (σ ⟨#[]⟩)∧W.cell? ⟨b,3,none⟩=some (ς none 0 0)
 at_:e=true→∀g m C,x7=ς (some ⟨g,0,none⟩) m C→x8=π (some ⟨g,L.length*4,none⟩)
 ne:P<B0∧V<B0∧P<V∧B0≤W.heap.size∧X<W.heap.size
 ord:(r=true→a=true)∧(e=true→a=true)
section
variable {P z d V B0 X:Nat}{l l2:List Tk}{n:Nd}{v:Value}{L:List Nd}{c i a e q r:Bool}{x4 x6 x7 x8:Value}{W W':World}{u:Value}{K:List Nd}
theorem qO{k:Option Nat}(h:V7 W (Kd B0 W u) u K)(lo:∀g,u.ownBlock=some g→B0≤g)(hg:W.grownBy W' k)(hk:∀g,k=some g→g<B0):V7 W' (Kd B0 W' u) u K:=by
 refine(h.grown (row:=k) hg ?_ fun b hb=>⟨hb.2.1,fun e=>by have:=hk b e.symm;have:=hb.1;omega⟩).more fun b hb=>⟨hb.1,JQ hb.2.1 hg.size,hb.2.2⟩
 cases hu:u.ownBlock with
 |none=>exact .inl rfl
 |some g=>exact .inr fun e=>by have:=hk g e.symm;have:=lo g hu;omega
theorem pI{k:Option Nat}{x:Value}(h:AW B0 W u x n)(hg:W.grownBy W' k)(hk:∀g,k=some g→g<B0):AW B0 W' u x n:=by
 obtain⟨A,C,e,hf⟩:=h;exact⟨A,C,e,(hf.keep fun b hb=>hg.block b hb.2.1 fun e=>by have:=hk b e.symm;have:=hb.1;omega).more fun b hb=>⟨hb.1,JQ hb.2.1 hg.size,hb.2.2⟩⟩
theorem mM(hb:Below W.heap.size W W'):W.grownBy W' none:=Ey hb none
theorem tX(hb:ZM P W W'):W.grownBy W' (some P):=⟨hb.os,hb.tape,hb.output,hb.size,fun b h1 h2=>hb.block b h1 (fun e=>h2 (by rw[e]))⟩
theorem EK.QS(h:EK P z d V B0 X l v L W)(hb:ZM P W W')(hps:PS W' P z l2 d):EK P z d V B0 X l2 v L W' :=
 ⟨qO h.own (fun g e=>(h.lo g e).1) (tX hb) (fun g e=>by obtain rfl:=Option.some.inj e;exact h.ne.1),h.lo,(hb.block V h.box.lt (Nat.ne_of_gt h.ne.2.2.1)).trans h.box,hps,⟨h.ne.1,h.ne.2.1,h.ne.2.2.1,VJ h.ne.2.2.2.1 hb.size,JQ h.ne.2.2.2.2 hb.size⟩⟩
theorem EK.later(h:EK P z d V B0 X l v L W)(hb:Below W.heap.size W W'):EK P z d V B0 X l v L W':=h.QS (ZM.of hb P) (h.ps.later hb)
theorem XT.start(h:EK P z d V B0 X l v L W):XT P z d V B0 X l l2 n v L false false false false false false x4 x6 x7 x8 W :=
 ⟨h.own,h.lo,h.box,h.ps,fun h=>(by cases h),fun h=>(by cases h),fun h=>(by cases h),h.ne,⟨fun h=>(by cases h),fun h=>(by cases h)⟩⟩
theorem XT.later(h:XT P z d V B0 X l l2 n v L c i a e q r x4 x6 x7 x8 W)(hb:Below W.heap.size W W'):XT P z d V B0 X l l2 n v L c i a e q r x4 x6 x7 x8 W':=by
 refine⟨qO h.own (fun g e=>(h.lo g e).1) (mM hb) (fun g e=>by cases e),h.lo,(hb.block V h.box.lt).trans h.box,h.ps.later hb,fun hc=>pI (h.nd hc) (mM hb) (fun g e=>by cases e),fun h1 h2=>?_,h.at_,⟨h.ne.1,h.ne.2.1,h.ne.2.2.1,VJ h.ne.2.2.2.1 hb.size,JQ h.ne.2.2.2.2 hb.size⟩,h.ord⟩;obtain⟨b,e,hB,hl,c0,c1,c2,c3⟩:=h.row h1 h2;exact⟨b,e,hB,JQ hl hb.size,(hb.cell (p:=⟨b,0,none⟩) hl).trans c0,(hb.cell (p:=⟨b,1,none⟩) hl).trans c1,(hb.cell (p:=⟨b,2,none⟩) hl).trans c2,(hb.cell (p:=⟨b,3,none⟩) hl).trans c3⟩
theorem XT.call{v4:Value}(h:XT P z d V B0 X l l2 n v L false i a e q r x4 x6 x7 x8 W)(hv:NV W W' v4 n)(hps:PS W' P z l2 d)(hb:ZM P W W'):XT P z d V B0 X l l2 n v L true i a e q r v4 x6 x7 x8 W':=by
 refine⟨qO h.own (fun g e=>(h.lo g e).1) (tX hb) (fun g e=>by obtain rfl:=Option.some.inj e;exact h.ne.1),h.lo,(hb.block V h.box.lt (Nat.ne_of_gt h.ne.2.2.1)).trans h.box,hps,fun _=>?_,fun h1 h2=>?_,h.at_,⟨h.ne.1,h.ne.2.1,h.ne.2.2.1,VJ h.ne.2.2.2.1 hb.size,JQ h.ne.2.2.2.2 hb.size⟩,h.ord⟩
 ·obtain⟨A,C,e,hf⟩:=hv;refine⟨A,C,e,hf.more fun b hb'=>⟨VJ h.ne.2.2.2.1 hb'.1,hb'.2,fun e=>?_⟩⟩;have:=h.own.lt e.symm;have:=hb'.1;omega
 ·obtain⟨b,e,hB,hl,c0,c1,c2,c3⟩:=h.row h1 h2;have hne:b≠P:=by have:=h.ne.1;omega
  exact⟨b,e,hB,JQ hl hb.size,(hb.cell (p:=⟨b,0,none⟩) hl hne).trans c0,(hb.cell (p:=⟨b,1,none⟩) hl hne).trans c1,(hb.cell (p:=⟨b,2,none⟩) hl hne).trans c2,(hb.cell (p:=⟨b,3,none⟩) hl hne).trans c3⟩
theorem XT.lay(h:XT P z d V B0 X l l2 n v L c false a e q r x4 x6 x7 x8 W):XT P z d V B0 X l l2 n v L c true a e q r x4 (ς (some ⟨W.heap.size,0,none⟩) 1 1) x7 x8 (W.alloc (θ #[ι κ 0,σ ⟨#[]⟩,σ ⟨#[]⟩,ς none 0 0] 24)):=by
 have h':=h.later ((Below.refl _ _).alloc (QH _) (θ #[ι κ 0,σ ⟨#[]⟩,σ ⟨#[]⟩,ς none 0 0] 24));refine⟨h'.own,h'.lo,h'.box,h'.ps,h'.nd,fun _ _=>⟨W.heap.size,rfl,h.ne.2.2.2.1,by simp,?_,?_,?_,?_⟩,h'.at_,h'.ne,h'.ord⟩;all_goals rw[World.cell?_alloc_at _ _ _ _ rfl];rfl
theorem XT.app{v':Value}(h:XT P z d V B0 X l l2 n v L c i false e q false x4 x6 x7 x8 W)(he:e=false)(hq:q=false)(ho:V7 W' (Kd B0 W v) v' (L++[zN]))(hg:W.grownBy W' v.ownBlock)(hv:v'.ownBlock=v.ownBlock∨v'.ownBlock=some W.heap.size) :
  XT P z d V B0 X l l2 n v L c i true e q false x4 x6 v' x8 W':=by
 subst he hq;have Oa:∀g,v.ownBlock=some g→B0≤g∧g≠X:=h.lo;have hlo:∀g,v.ownBlock=some g→B0≤g:=fun g e=>(Oa g e).1
 have hB:=h.ne.2.2.2.1
 have hk:∀b,Kd B0 W v b→Kd B0 W' v' b:=fun b hb=>⟨hb.1,JQ hb.2.1 hg.size,fun e=>by
  rcases hv with hv|hv
  ·exact hb.2.2 (e.trans hv)
  ·rw[hv]at e;have:=Option.some.inj e;have:=hb.2.1;omega⟩
 refine⟨ho.more hk,fun g e=>?_,(hg.block V h.box.lt fun e=>by have:=hlo V e.symm;have:=h.ne.2.1;omega).trans h.box,h.ps.below (XB hg (B:=B0) hB hlo) h.ne.1,fun hc=>?_,fun _ h2=>(by cases h2),fun h=>(by cases h),⟨h.ne.1,h.ne.2.1,h.ne.2.2.1,VJ hB hg.size,JQ h.ne.2.2.2.2 hg.size⟩,⟨fun _=>rfl,fun _=>rfl⟩⟩
 ·rcases hv with hv|hv
  ·exact Oa g (hv ▸ e)
  ·have:v'.ownBlock=some g:=e;rw[hv]at this;obtain rfl:=Option.some.inj this;exact⟨hB,by have:=h.ne.2.2.2.2;omega⟩
 ·obtain⟨A,C,e,hf⟩:=h.nd hc;exact⟨A,C,e,(hf.keep fun b hb=>hg.block b hb.2.1 hb.2.2).more hk⟩
theorem XT.addr{g m C:Nat}(h:XT P z d V B0 X l l2 n v L c i true e q r x4 x6 x7 x8 W)(hx:x7=ς (some ⟨g,0,none⟩) m C):XT P z d V B0 X l l2 n v L c i true true q r x4 x6 x7 (π (some ⟨g,L.length*4,none⟩)) W :=
 ⟨h.own,h.lo,h.box,h.ps,h.nd,h.row,fun _ g' m' C' e'=>by rw[hx]at e';injection e' with e1;injection e1 with e1;injection e1 with e1;rw[e1],h.ne,⟨fun _=>rfl,fun _=>rfl⟩⟩
theorem XT.form(h:XT P z d V B0 X l l2 n v L c i true e q r x4 x6 x7 x8 W):∃g C,x7=ς (some ⟨g,0,none⟩) (L.length+1) C∧B0≤g∧g≠X:=by
 have ho:=h.own;obtain⟨A,C,hx,_,_⟩:=ho.slice;have hx':x7=ς A (L++[bif q then n else zN]).length C:=hx;have ho':V7 W (Kd B0 W x7) x7 (L++[bif q then n else zN]):=ho;rw[hx']at ho';obtain⟨g,s,hA,_⟩:=ho'.at_ (i:=L.length) (nd:=bif q then n else zN) (by simp);refine⟨g,C,by rw[hx',hA];simp,(h.lo g ?_).1,(h.lo g ?_).2⟩;all_goals
  show x7.ownBlock=some g;rw[hx',hA];rfl
theorem XT.cells{g C:Nat}(h:XT P z d V B0 X l l2 n v L c i true e q r x4 x6 x7 x8 W)(hx:x7=ς (some ⟨g,0,none⟩) (L.length+1) C) :
  (∃k x y s,W.cell? ⟨g,L.length*4,none⟩=some k∧W.cell? ⟨g,L.length*4+1,none⟩=some x∧W.cell? ⟨g,L.length*4+2,none⟩=some y∧W.cell? ⟨g,L.length*4+3,none⟩=some s)∧W.frozen? ⟨g,L.length*4,none⟩=false∧W.frozen? ⟨g,L.length*4+1,none⟩=false∧W.frozen? ⟨g,L.length*4+2,none⟩=false∧W.frozen? ⟨g,L.length*4+3,none⟩=false:=by
 have ho':V7 W (Kd B0 W x7) x7 (L++[bif q then n else zN]):=h.own;have hfz:∀j,W.frozen? ⟨g,j,none⟩=false:=by
  intro j;obtain⟨ps,_,ho,_⟩:=ho';rcases ho.2 with⟨_,h0⟩|⟨g',cap,cur,hv,hg0,hg,q1,q2,q3,q4⟩
  ·simp at h0
  ·rw[hx]at hv;injection hv with e1;injection e1 with e1;injection e1 with e1;subst e1;simp[World.frozen?,hg]
 refine⟨?_,hfz _,hfz _,hfz _,hfz _⟩;rw[hx]at ho';obtain⟨g',s,hA,_,c0,c1,c2,c3,_⟩:=ho'.at_ (i:=L.length) (nd:=bif q then n else zN) (by simp);obtain rfl:g=g':=by injection hA with hA;injection hA
 exact⟨_,_,_,_,c0,c1,c2,c3⟩
theorem XT.put{g C m Cn:Nat}{An:Option Addr}(h:XT P z d V B0 X l l2 n v L true i true e q r x4 x6 x7 x8 W)(hq:q=false)(hx:x7=ς (some ⟨g,0,none⟩) (L.length+1) C)(h4:x4=ξ #[ι κ n.k,σ n.x,σ n.y,ς An m Cn]) :
  XT P z d V B0 X l l2 n v L true i true e true r x4 x6 x7 x8 (SC W g L.length n.k n.x n.y (ς An m Cn)):=by
 subst hq;have hg:=Gs W g L.length n.k n.x n.y (ς An m Cn);have hlo:B0≤g:=(h.lo g (by show x7.ownBlock=some g;rw[hx];rfl)).1;have hown:x7.ownBlock=some g:=by rw[hx];rfl
 have hB:=h.ne.2.2.2.1;obtain⟨A',C',e',hf⟩:=h.nd rfl;rw[h4]at e';simp only[Value.agg.injEq,Array.mk.injEq,List.cons.injEq,Value.slice.injEq,and_true,true_and]at e';have hf':Fs W (Kd B0 W x7) (ς An m Cn) n.c:=by obtain⟨e1,e2,e3⟩:=e';rw[e1,e2,e3];exact hf
 have hk:∀b,Kd B0 W x7 b→Kd B0 (SC W g L.length n.k n.x n.y (ς An m Cn)) x7 b:=fun b hb=>⟨hb.1,JQ hb.2.1 hg.size,hb.2.2⟩
 have ho:V7 W (Kd B0 W x7) x7 (L++[zN]):=h.own;have hp:V7 (SC W g L.length n.k n.x n.y (ς An m Cn)) (Kd B0 W x7) x7 ((L++[zN]).set L.length n):=by
  have hx2:=hx;rw[hx]at ho;have hkk:∀b,Kd B0 W x7 b→b<W.heap.size∧b≠g:=fun b hb=>⟨hb.2.1,fun e=>hb.2.2 (by rw[hown,e])⟩
  rw[hx]at hkk hf'⊢;exact ho.put L.length (by simp) n.k n.x n.y _ n.c hf' hkk
 rw[List.set_append_right _ _ (QH _),Nat.sub_self]at hp;refine⟨hp.more hk,h.lo,(hg.block V h.box.lt fun e=>by have:=Option.some.inj e;have:=h.ne.2.1;omega).trans h.box,h.ps.below (XB hg (B:=B0) hB fun k e=>by have:=Option.some.inj e;omega) h.ne.1,fun _=>⟨An,Cn,?_,?_⟩,fun _ h2=>(by cases h2),h.at_,⟨h.ne.1,h.ne.2.1,h.ne.2.2.1,VJ hB hg.size,JQ h.ne.2.2.2.2 hg.size⟩,⟨fun _=>rfl,fun _=>rfl⟩⟩
 ·rw[h4,e'.2.1]
 ·rw[←e'.2.1];exact(hf'.keep fun b hb=>hg.block b hb.2.1 fun e=>hb.2.2 (by rw[hown];exact e)).more hk
theorem XT.set(h:XT P z d V B0 X l l2 n v L c i true e q r x4 x6 x7 x8 W):XT P z d V B0 X l l2 n v L c i true e q true x4 x6 x7 x8 (W.setCell ⟨V,0,none⟩ x7):=by
 have hg:=Xe W V x7;have hk:∀g,some V=some g→g<B0:=fun g e=>by have:=Option.some.inj e;have:=h.ne.2.1;omega
 have hps:PS (W.setCell ⟨V,0,none⟩ x7) P z (bif c then l2 else l) d:=h.ps.set h.ne.2.2.1 _;exact⟨qO h.own (fun g e=>(h.lo g e).1) hg hk,h.lo,h.box.set x7,hps,fun hc=>pI (h.nd hc) hg hk,fun _ h2=>(by cases h2),h.at_,⟨h.ne.1,h.ne.2.1,h.ne.2.2.1,VJ h.ne.2.2.2.1 hg.size,JQ h.ne.2.2.2.2 hg.size⟩,⟨fun _=>rfl,fun _=>rfl⟩⟩
theorem XT.end_(h:XT P z d V B0 X l l2 n v L true i true e true true x4 x6 x7 x8 W):EK P z d V B0 X l2 x7 (L++[n]) W:=⟨h.own,h.lo,h.box,h.ps,h.ne⟩
theorem XT.congr{y4 y6 y7 y8:Value}(h:XT P z d V B0 X l l2 n v L c i a e q r x4 x6 x7 x8 W)(h4:c=true→y4=x4)(h6:i=true→y6=x6)(h7:a=true→y7=x7)(h8:e=true→y8=x8):XT P z d V B0 X l l2 n v L c i a e q r y4 y6 y7 y8 W:=by
 have hnd:∀u,(c=true→AW B0 W u x4 n)→c=true→AW B0 W u y4 n:=fun u hh hc=>by rw[h4 hc];exact hh hc
 cases a with
 |true=>obtain rfl:=h7 rfl;exact⟨h.own,h.lo,h.box,h.ps,hnd _ h.nd,fun _ h2=>(by cases h2),fun he=>by rw[h8 he];exact h.at_ he,h.ne,h.ord⟩
 |false =>
  have hr:r=false:=by cases r with|false=>rfl|true=>exact(h.ord.1 rfl).symm
  have he:e=false:=by cases e with|false=>rfl|true=>exact(h.ord.2 rfl).symm
  subst hr he;exact⟨h.own,h.lo,h.box,h.ps,hnd _ h.nd,fun h1 h2=>by rw[h6 h1];exact h.row h1 h2,fun h=>(by cases h),h.ne,h.ord⟩
def FG(P z d V B0 X:Nat)(l l2:List Tk)(n:Nd)(v:Value)(L:List Nd):(Nat→Bool)→(Nat→Value)→World→Prop :=
 fun dn x W=>XT P z d V B0 X l l2 n v L (dn 4) (dn 6) (dn 7) (dn 8) (dn 9) (dn 10) (x 4) (x 6) (x 7) (x 8) W
theorem FG.keep:∀d1 d2 x x' W W',(∀j,[4,6,7,8,9,10].contains j=true→d2 j=d1 j∧(d1 j=true→x' j=x j))→Below W.heap.size W W'→FG P z d V B0 X l l2 n v L d1 x W→FG P z d V B0 X l l2 n v L d2 x' W':=by
 intro d1 d2 x x' W W' hj hb hg;unfold FG at hg⊢;rw[(hj 4 (by decide)).1,(hj 6 (by decide)).1,(hj 7 (by decide)).1,(hj 8 (by decide)).1,(hj 9 (by decide)).1,(hj 10 (by decide)).1];exact(hg.later hb).congr (hj 4 (by decide)).2 (hj 6 (by decide)).2 (hj 7 (by decide)).2 (hj 8 (by decide)).2
variable {dn:Nat→Bool}{x:Nat→Value}
theorem FG.start(h:EK P z d V B0 X l v L W):FG P z d V B0 X l l2 n v L (fun _=>false) x W:=XT.start h
theorem FG.call{v4:Value}(hg:FG P z d V B0 X l l2 n v L dn x W)(hd:dn 4=false)(hv:NV W W' v4 n)(hps:PS W' P z l2 d)(hb:ZM P W W'):FG P z d V B0 X l l2 n v L (Xq dn 4) (Vf x 4 v4) W':=by
 unfold FG at hg;rw[hd]at hg;exact hg.call hv hps hb
theorem FG.ps(hg:FG P z d V B0 X l l2 n v L dn x W)(hd:dn 4=false):PS W P z l d:=by
 unfold FG at hg;rw[hd]at hg;exact hg.ps
theorem FG.lay(hg:FG P z d V B0 X l l2 n v L dn x W)(hd:dn 6=false):FG P z d V B0 X l l2 n v L (Xq dn 6) (Vf x 6 (ς (some ⟨W.heap.size,0,none⟩) 1 1)) (W.alloc (θ #[ι κ 0,σ ⟨#[]⟩,σ ⟨#[]⟩,ς none 0 0] 24)):=by
 unfold FG at hg;rw[hd]at hg;exact hg.lay
theorem FG.app{v':Value}(hg:FG P z d V B0 X l l2 n v L dn x W)(h7:dn 7=false)(h8:dn 8=false)(h9:dn 9=false)(h10:dn 10=false)(ho:V7 W' (Kd B0 W v) v' (L++[zN]))(hw:W.grownBy W' v.ownBlock)(hv:v'.ownBlock=v.ownBlock∨v'.ownBlock=some W.heap.size) :
  FG P z d V B0 X l l2 n v L (Xq dn 7) (Vf x 7 v') W':=by
 unfold FG at hg;rw[h7,h10]at hg;have:=hg.app h8 h9 ho hw hv;show XT P z d V B0 X l l2 n v L (dn 4) (dn 6) true (dn 8) (dn 9) (dn 10) (x 4) (x 6) _ (x 8) _;rw[h10];exact this
theorem FG.before(hg:FG P z d V B0 X l l2 n v L dn x W)(h7:dn 7=false):V7 W (Kd B0 W v) v L∧∀g,v.ownBlock=some g→B0≤g∧g≠X:=by
 unfold FG at hg;rw[h7]at hg;exact⟨hg.own,hg.lo⟩
theorem FG.form(hg:FG P z d V B0 X l l2 n v L dn x W)(h7:dn 7=true):∃g C,x 7=ς (some ⟨g,0,none⟩) (L.length+1) C∧B0≤g∧g≠X:=by
 unfold FG at hg;rw[h7]at hg;exact hg.form
theorem FG.addr{g m C:Nat}(hg:FG P z d V B0 X l l2 n v L dn x W)(h7:dn 7=true)(hx:x 7=ς (some ⟨g,0,none⟩) m C):FG P z d V B0 X l l2 n v L (Xq dn 8) (Vf x 8 (π (some ⟨g,L.length*4,none⟩))) W:=by
 unfold FG at hg;rw[h7]at hg;have:=hg.addr hx;show XT P z d V B0 X l l2 n v L (dn 4) (dn 6) (dn 7) true (dn 9) (dn 10) (x 4) (x 6) (x 7) _ W;rw[h7];exact this
theorem FG.put{g C m Cn:Nat}{An:Option Addr}{u:Value}(hg:FG P z d V B0 X l l2 n v L dn x W)(h4:dn 4=true)(h7:dn 7=true)(h9:dn 9=false)(hx:x 7=ς (some ⟨g,0,none⟩) (L.length+1) C)(ZP:x 4=ξ #[ι κ n.k,σ n.x,σ n.y,ς An m Cn]) :
  FG P z d V B0 X l l2 n v L (Xq dn 9) (Vf x 9 u) (SC W g L.length n.k n.x n.y (ς An m Cn)):=by
 unfold FG at hg;rw[h4,h7,h9]at hg;have:=hg.put rfl hx ZP;show XT P z d V B0 X l l2 n v L (dn 4) (dn 6) (dn 7) (dn 8) true (dn 10) (x 4) (x 6) (x 7) (x 8) _;rw[h4,h7];exact this
theorem FG.set{u u':Value}(hg:FG P z d V B0 X l l2 n v L dn x W)(h7:dn 7=true)(hx:x 7=u):FG P z d V B0 X l l2 n v L (Xq dn 10) (Vf x 10 u') (W.setCell ⟨V,0,none⟩ u):=by
 unfold FG at hg;rw[h7]at hg;have:=hg.set;rw[hx]at this;show XT P z d V B0 X l l2 n v L (dn 4) (dn 6) (dn 7) (dn 8) (dn 9) true (x 4) (x 6) (x 7) (x 8) _;rw[h7,hx];exact this
theorem FG.var(hg:FG P z d V B0 X l l2 n v L dn x W)(h10:dn 10=false):Ra W V v:=by
 unfold FG at hg;rw[h10]at hg;exact hg.box
theorem FG.laid(hg:FG P z d V B0 X l l2 n v L dn x W)(h6:dn 6=true)(h7:dn 7=false):∃b,x 6=ς (some ⟨b,0,none⟩) 1 1∧B0≤b∧b<W.heap.size∧W.cell? ⟨b,0,none⟩=some (ι κ 0)∧W.cell? ⟨b,1,none⟩=some (σ ⟨#[]⟩)∧W.cell? ⟨b,2,none⟩=some (σ ⟨#[]⟩)∧W.cell? ⟨b,3,none⟩=some (ς none 0 0):=by
 unfold FG at hg;exact hg.row h6 h7
theorem FG.cells{g C:Nat}(hg:FG P z d V B0 X l l2 n v L dn x W)(h7:dn 7=true)(hx:x 7=ς (some ⟨g,0,none⟩) (L.length+1) C) :
  (∃k x y s,W.cell? ⟨g,L.length*4,none⟩=some k∧W.cell? ⟨g,L.length*4+1,none⟩=some x∧W.cell? ⟨g,L.length*4+2,none⟩=some y∧W.cell? ⟨g,L.length*4+3,none⟩=some s)∧W.frozen? ⟨g,L.length*4,none⟩=false∧W.frozen? ⟨g,L.length*4+1,none⟩=false∧W.frozen? ⟨g,L.length*4+2,none⟩=false∧W.frozen? ⟨g,L.length*4+3,none⟩=false:=by
 unfold FG at hg;rw[h7]at hg;exact hg.cells hx
theorem FG.node(hg:FG P z d V B0 X l l2 n v L dn x W)(h4:dn 4=true):∃A C,x 4=ξ #[ι κ n.k,σ n.x,σ n.y,ς A n.c.len C]:=by
 unfold FG at hg;obtain⟨A,C,e,_⟩:=hg.nd h4;exact⟨A,C,e⟩
theorem FG.at8{g m C:Nat}(hg:FG P z d V B0 X l l2 n v L dn x W)(h8:dn 8=true)(hx:x 7=ς (some ⟨g,0,none⟩) m C):x 8=π (some ⟨g,L.length*4,none⟩):=by
 unfold FG at hg;exact hg.at_ h8 g m C hx
def gI{P V B0 X:Nat}:Cd (QU P V B0 X):=⟨fun _ _=>False,fun _ _ _ _ h=>h⟩
def Be(X:Nat)(w:World)(v:Value)(us:List ByteArray):Prop:=∃A C,v=ς A us.length C∧us.length≤100∧(us=[]∨A=some ⟨X,0,none⟩∧∀j u,us[j]?=some u→w.cell? ⟨X,j,none⟩=some (σ u))
theorem Be.at_{v:Value}{us:List ByteArray}(h:Be X W v us):kE W v us:=by
 obtain⟨A,C,e,hn,h⟩:=h;exact⟨A,C,e,hn,h.imp id fun h=>⟨X,h⟩⟩
theorem Be.keep{v:Value}{us:List ByteArray}(h:Be X W v us)(hb:QU P V B0 X W W')(hX:X<W.heap.size)(h1:X≠P)(h2:X≠V):Be X W' v us:=by
 obtain⟨A,C,e,hn,h⟩:=h;exact⟨A,C,e,hn,h.imp id fun h=>⟨h.1,fun j u hu=>(hb.cell (p:=⟨X,j,none⟩) hX (.inr rfl) h1 h2).trans (h.2 j u hu)⟩⟩
def Yc(P z V B0 X:Nat)(l:List Tk)(L:List Nd)(w:World)(R:Rd F)(e:Ending)(w':World):Prop :=
 match R with
 | .ok c l'=>∃v' L2,e=ρ (.tuple #[])∧c=Vg L2∧EK P z 0 V B0 X l' v' (L++L2) w'∧L2.length+l'.length≤l.length∧QU P V B0 X w w'
 | .bad p er=>e=.panicked (Si p er)∧QU P V B0 X w w'
theorem sX{R:Rd F}{p:Nat}{er:Int}(hR:R=.bad p er)(hb:QU P V B0 X W W'):Yc P z V B0 X l L W R (.panicked (Si p er)) W':=by
 rw[hR];exact⟨rfl,hb⟩
theorem Qw7{R:Rd F}{v':Value}{L2:List Nd}{l':List Tk}(hR:R=.ok (Vg L2) l')(hf:EK P z 0 V B0 X l' v' (L++L2) W')(hl:L2.length+l'.length≤l.length)(hb:QU P V B0 X W W'):Yc P z V B0 X l L W R (ρ (.tuple #[])) W':=by
 rw[hR];exact⟨v',L2,rfl,rfl,hf,hl,hb⟩
theorem FG.end_(hg:FG P z d V B0 X l l2 n v L dn x W)(h:∀i,i<11→dn i=true):EK P z d V B0 X l2 (x 7) (L++[n]) W:=by
 unfold FG at hg;rw[h 4 (by decide),h 7 (by decide),h 9 (by decide),h 10 (by decide)]at hg;exact hg.end_
theorem EK.vz{X':Nat}(h:EK P z d V B0 X l v L W)(hX:W.heap.size≤X')(hb:Below W.heap.size W W')(iD:X'<W'.heap.size):EK P z d V B0 X' l v L W':=by
 have k:=h.later hb;exact⟨k.own,fun g e=>⟨(k.lo g e).1,by have:=h.own.lt e;omega⟩,k.box,k.ps,k.ne.1,k.ne.2.1,k.ne.2.2.1,k.ne.2.2.2.1,iD⟩
end
