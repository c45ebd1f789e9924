import Derived.Test.YtmepekognmlblaaGreatDoorS24
import Derived.Test.YtmepekognmlblaaGreatDoorS25
import Derived.ChangeKeysEq
import Derived.Laws.StructEq
import Derived.Lib.AppendIntMem
import Derived.Shelf.Slices.SearchI
import Derived.Shelf.Slices.Empties
import Derived.Shelf.SlSorted.Search
set_option maxHeartbeats 16000000
set_option maxRecDepth 100000
set_option linter.unusedVariables false
open Go.ChangeShapes Go.WideShapes Go.ChangeAt Go.RowKit Go.Proofs.Tryz Go.Shelf
open Go.Lib renaming hid→QA
open _root_.Nat renaming lt_of_lt_of_le→VE,le_trans→QW
open _root_.List renaming length_map→VD
open Go.RowKit.Below renaming refl→QE
open _root_.Bool renaming and_eq_true→Th
open Go.Value renaming string→σ,int→ι,slice→ς,pointer→π,bool→τ,agg→ξ
open Go.IntKind renaming i64→γ
open Go.Obj renaming cells→θ
open Go.Ending renaming returned→ρ
namespace Go.Proofs.YtmepekognmlblaaGreatDoor
namespace Match
open Mem
theorem rK(xs:Array Value)(i:Nat)(v:Value)(h:xs[i]?=some v)(w:World):(part 3 xs i).run Tryz.prog w=.ok v w :=
 run_part_plain w χ h
theorem ú(a b c d:Int)(w:World):(Op.equalIn 10000 40 (ξ #[ι γ a,ι γ b]) (ξ #[ι γ c,ι γ d])).run Tryz.prog w=.ok ((a==c)&&(b==d)) w:=by
 obtain⟨i1,hi1⟩:∃i,Tryz.prog.info? 3=some i:=Option.isSome_iff_exists.1 χ;have h:=run_equalIn_array (P:=Tryz.prog) (w:=w) 9999 (t:=40) (e:=3) (n:=2) (i:=i1) #[ι γ a,ι γ b] #[ι γ c,ι γ d] Tryz.underlying40 hi1;have hc:Tryz.prog.cellsOf 3=1:=χ
 have he:∀(x y:Int)(w:World),(Op.equalIn 9999 3 (ι γ x) (ι γ y)).run Tryz.prog w=.ok (x==y) w:=fun x y w=>run_equalIn_int w 9998 3 γ γ x y Tryz.underlying3
 rw[hc]at h;refine h.trans ?_;rw[show List.range 2=[0,1]from rfl];simp only[Op.eqItems,Sem.run_bind];rw[rK _ _ (ι γ a) rfl];simp only[Result.andThen_ok];rw[rK _ _ (ι γ c) rfl];simp only[Result.andThen_ok,he];cases a==c with
 |false=>simp
 |true=>simp only[Bool.not_true,Bool.false_eq_true,if_false,Sem.run_bind];rw[rK _ _ (ι γ b) rfl];simp only[Result.andThen_ok];rw[rK _ _ (ι γ d) rfl];simp only[Result.andThen_ok,he];cases b==d <;> simp
open Tree
def bV(l:List Bool):List Value:=l.map τ
theorem Qzf(l:List Bool):(bV l).length=l.length:=by simp[bV]
theorem wz{l:List Bool}{i:Nat}{v:Bool}(h:l[i]?=some v):(bV l)[i]?=some (τ v):=by simp[bV,h]
theorem Qze(l:List Bool)(i:Nat)(v:Bool):(bV l).set i (τ v)=bV (l.set i v):=by unfold bV;rw[List.map_set]
theorem Qpr:(Tryz.prog.info? 4).map (fun i=>(i.zero,i.size,i.bytes))=some (some (τ false),1,1):=χ
theorem Qlh(n:Nat)(hn:n≤1000000)(w:World):(Instr.makeSlice 53 (ι γ (n:Int)) (ι γ (n:Int))).run Tryz.prog w=.ok (ς (some ⟨w.heap.size,0,none⟩) n n) (w.alloc (θ (bV (List.replicate n false)).toArray 4)):=by
 obtain⟨i0,hi0,hz0,hz1,hz2⟩:=info_parts Qpr;have h:=run_make (P:=Tryz.prog) w 53 4 i0 (τ false) Tryz.underlying53 hi0 hz0 γ γ n n ω (Int.le_refl _) (by rw[hz2];omega) ω;rw[h];simp only[Int.toNat_natCast]
 congr 2
 have:madeCells (τ false).cells (n*i0.size)=(bV (List.replicate n false)).toArray:=by rw[hz1,Nat.mul_one];apply Array.toList_inj.1;have:=toList_madeCells_one (τ false) n;simp only[Value.cells];rw[this];simp[bV]
 rw[this]
theorem Ţ:∀(L:List Nd)(i:Nat)(nd:Nd),L[i]?=some nd→(YG L).drop i=.cons nd.k nd.x nd.y nd.c (YG (L.drop (i+1)))
 |[],i,nd,h=>by simp at h
 |m::L,0,nd,h=>by
  simp only[List.getElem?_cons_zero,Option.some.injEq]at h;subst h;rfl
 |m::L,i+1,nd,h=>by
  have:=Ţ L i nd (by simpa using h);simpa[YG,F.drop]using this
def kinds(L:List Nd):List Int:=L.map (·.k)
theorem Uv(L:List Nd):(kinds L).length=L.length:=by simp[kinds]
theorem drop_at{α:Type}{L:List α}{i:Nat}{p:α}(h:L[i]?=some p):L.drop i=p::L.drop (i+1):=by
 obtain⟨hlt,e⟩:=List.getElem?_eq_some_iff.1 h;rw[List.drop_eq_getElem_cons hlt,e]
theorem pO{B:Nat}{a w:World}(h:Below B a w)(n:Nat):Below B a (w.drewN n):=⟨h.os,h.tape,h.output,h.size,h.block⟩
theorem Gn{ka kb:List Int}{last:Int}{used:List Int}{p:P2}{r:List P2}(h:Kj ka kb last used p=false):X7 ka kb last used (p::r)=false:=by
 show(_&&_)=false;rw[h];rfl
theorem Vt{ka kb:List Int}{last x y:Int}{used:List Int}:Kj ka kb last used (x,y)=true↔last<x∧x<(ka.length:Int)∧0≤y∧y<(kb.length:Int)∧used.contains y=false∧ka.getD x.toNat 0=kb.getD y.toNat 0:=by
 simp only[Kj,Bool.and_eq_true,decide_eq_true_eq,Bool.not_eq_true']
 constructor
 ·rintro⟨⟨⟨⟨⟨h1,h2⟩,h3⟩,h4⟩,h5⟩,h6⟩;exact⟨h1,h2,h3,h4,h5,h6⟩
 ·rintro⟨h1,h2,h3,h4,h5,h6⟩;exact⟨⟨⟨⟨⟨h1,h2⟩,h3⟩,h4⟩,h5⟩,h6⟩
end Match
namespace Tree
open Mem
theorem Gw(p':Nd×Value):∀(ps:List (Nd×Value))(i:Nat),i<ps.length→
 ((((ps.flatMap VC).set (i*4) (ι γ p'.1.k)).set (i*4+1) (σ p'.1.x)).set (i*4+2) (σ p'.1.y)).set (i*4+3) p'.2=(ps.set i p').flatMap VC
 |[],i,h=>by simp at h
 |p::ps,0,h=>by simp[VC]
 |p::ps,i+1,h=>by
  have ih:=Gw p' ps i (by simpa using h)
  have e:∀(j:Nat)(l:List Value)(u:Value),(VC p++l).set (4+j) u=VC p++l.set j u:=fun j l u=>by
   rw[List.set_append,if_neg (by rw[Vn];omega),Vn,show 4+j-4=j by omega]
  rw[List.flatMap_cons,List.set_cons_succ,List.flatMap_cons,←ih,show(i+1)*4=4+i*4 by omega,show 4+i*4+1=4+(i*4+1)by omega,show 4+i*4+2=4+(i*4+2)by omega,show 4+i*4+3=4+(i*4+3)by omega,e,e,e,e]
theorem Zs.at_{w:World}{S:Nat→Prop}{A:Option Addr}{n c:Nat}{L:List Nd}(h:Zs w S (ς A n c) L){i:Nat}{nd:Nd}(hi:L[i]?=some nd) :
 ∃g s,A=some ⟨g,0,none⟩∧g<w.heap.size∧w.cell? ⟨g,i*4,none⟩=some (ι γ nd.k)∧w.cell? ⟨g,i*4+1,none⟩=some (σ nd.x)∧w.cell? ⟨g,i*4+2,none⟩=some (σ nd.y)∧w.cell? ⟨g,i*4+3,none⟩=some s∧Fs w S s nd.c:=by
 obtain⟨ps,h1,ho,hf⟩:=h;have hlen:ps.length=L.length:=by rw[←h1];simp
 have hil:i<L.length:=(List.getElem?_eq_some_iff.1 hi).1;obtain⟨p,hp⟩:∃p,ps[i]?=some p:=⟨_,List.getElem?_eq_getElem ω⟩;have GZ:p.1=nd:=by
  have:(ps.map (·.1))[i]?=some p.1:=by rw[List.getElem?_map,hp];rfl
  rw[h1,hi]at this;exact(Option.some.inj this).symm
 rcases ho.2 with⟨_,h0⟩|⟨g,cap,cur,hv,hg0,hg,q1,q2,q3,q4⟩
 ·omega
 ·injection hv with e1 e2 e3;have hc:=ho.cells (g:=g) (by rw[e1];rfl);have ad:∀j,(⟨g,0,none⟩:Addr).add j=⟨g,j,none⟩:=fun j=>by unfold Addr.add;split <;> simp_all
  have at_:∀j u,(VC p)[j]? = some u→w.cell? ⟨g,i*4+j,none⟩=some u:=fun j u hu=>by
   have:=hc (i*4+j) u (Lm.Uz (sz:=4) Vn ps i p hp j u hu);rwa[ad]at this
  refine⟨g,p.2,e1,lt_of_block hg,?_,?_,?_,?_,?_⟩
  ·have:=at_ 0 _ rfl;rwa[GZ]at this
  ·have:=at_ 1 _ rfl;rwa[GZ]at this
  ·have:=at_ 2 _ rfl;rwa[GZ]at this
  ·exact at_ 3 _ rfl
  ·have:=hf p (List.mem_of_getElem? hp);rwa[GZ]at this
def KD(w:World)(g i:Nat)(k:Int)(x y:ByteArray)(s:Value):World:=(((w.setCell ⟨g,i*4,none⟩ (ι γ k)).setCell ⟨g,i*4+1,none⟩ (σ x)).setCell ⟨g,i*4+2,none⟩ (σ y)).setCell ⟨g,i*4+3,none⟩ s
theorem El(w:World)(g i:Nat)(k:Int)(x y:ByteArray)(s:Value):w.grownBy (KD w g i k x y s) (some g):=by
 have hb:Below 0 w (KD w g i k x y s):=by unfold KD;exact((((Below.refl 0 w).setCell (Nat.zero_le _) _).setCell (Nat.zero_le _) _).setCell (Nat.zero_le _) _).setCell (Nat.zero_le _) _
 refine⟨hb.os,hb.tape,hb.output,hb.size,fun b _ hne=>?_⟩;have CR:b≠g:=fun e=>hne (by rw[e])
 unfold KD;rw[Below.heap_setCell _ _ _ _ CR,Below.heap_setCell _ _ _ _ CR,Below.heap_setCell _ _ _ _ CR,Below.heap_setCell _ _ _ _ CR]
theorem Zs.put{w:World}{S:Nat→Prop}{g n c:Nat}{L:List Nd}(h:Zs w S (ς (some ⟨g,0,none⟩) n c) L)(i:Nat)(hi:i<L.length)(k:Int)(x y:ByteArray)(s:Value)(c':F)(hf:Fs w S s c')(hS:∀b,S b→b<w.heap.size∧b≠g) :
 Zs (KD w g i k x y s) S (ς (some ⟨g,0,none⟩) n c) (L.set i ⟨k,x,y,c'⟩):=by
 obtain⟨ps,e1,ho,VX⟩:=h;obtain⟨a',c'',e,_,_⟩:=Q0 ho;injection e with _ e2 _;subst e2;have hlen:ps.length=L.length:=by rw[←e1];simp
 have r1:=(ho.stored (i*4) (ι γ k)).1;have r2:=(r1.stored (i*4+1) (σ x)).1;have r3:=(r2.stored (i*4+2) (σ y)).1;have r4:=(r3.stored (i*4+3) s).1;rw[Gw (⟨k,x,y,c'⟩,s) ps i ω]at r4;have hg:=El w g i k x y s;have keep:∀{v:Value}{f:F},Fs w S v f→Fs (KD w g i k x y s) S v f:=fun hv=>hv.keep fun b hb=>hg.block b (hS b hb).1 (fun e=>(hS b hb).2 (Option.some.inj e))
 refine⟨ps.set i (⟨k,x,y,c'⟩,s),by rw[List.map_set,e1],by rw[List.length_set];exact r4,fun p hp=>?_⟩;rcases List.mem_or_eq_of_mem_set hp with hp|rfl
 ·exact keep (VX p hp)
 ·exact keep hf
theorem Qwu(w:World){ops:Array Oper}{rest:List Oper}{o:Oper}{a:Act}{Q:Exit→Act→World→Prop}(hgd:o.guard=none)(s x:Operand)
 (ho:o.op=.call { callee:=.builtin .append,args:=#[s,x],argTypes:=#[22,22] }) (B base:Nat) (v:Value) (L1:List Nd) (ad:Addr) (c:Nat) (hs:a.eval s=v) (hx:a.eval x=ς (some ad) 0 c)
 (h1:K3 w B base v L1) (hB:B≤base) (hbase:base≤w.heap.size) (hlen:L1.length≤1000000)
 (h:∀v' w',K3 w' B base v' L1→Below base w w'→wpList prog ops Q rest (a.put o.dst v') w'):wpList prog ops Q (o::rest) a w:=by
 obtain⟨i0,hi0,hz0,hz1,hz2⟩:=info_parts Jz;obtain⟨jE,e1,XD,Pe⟩:=h1;refine wpList_append_own_at (P:=prog) w hgd s x 22 ho base 24 i0 (ξ #[ι γ 0,σ ⟨#[]⟩,σ ⟨#[]⟩,ς none 0 0]) 4 64 underlying22 hi0 hz0 hz1 hz2 rfl δ v L1.length _ hs XD ad 0 c [] hx rfl (fun j u hu=>by simp at hu) (fun u hu=>by cases hu) (by unfold maxLen;omega) ω hbase fun v' w' r1 r2 _ _=>?_
 have hbl:Below base w w':=(Below.refl _ _).grown r2 hbase (fun k hk=>(XD.lt k hk).1);exact h v' w' ⟨jE,e1,by simpa using r1,fun p hp=>(Pe p hp).below hbl hB⟩ hbl
theorem K3.owns{w:World}{B base:Nat}{v:Value}{L:List Nd}(h:K3 w B base v L):Zs w (Lo B) v L∧∀g,v.ownBlock=some g→base≤g:=by
 obtain⟨ps,e,ho,hf⟩:=h;refine⟨⟨ps,e,⟨ho.1,?_⟩,hf⟩,fun g hg=>(ho.lt g hg).1⟩;rcases ho.2 with h' |⟨g,cap,cur,h1,h2,h3⟩
 ·exact .inl h'
 ·exact .inr ⟨g,cap,cur,h1,Nat.zero_le _,h3⟩
theorem Qk6(w:World)(B:Nat):K3 (w.alloc (θ #[] 24)) B w.heap.size (ς (some ⟨w.heap.size,0,none⟩) 0 0) [] :=
 ⟨[],rfl,World.ownsRow_lit w #[] 0 (Nat.le_refl _) (Nat.zero_le _) rfl,fun p hp=>by cases hp⟩
def Qp7(B:Nat)(w:World)(c:F)(e:Ending)(w':World):Prop:=Below w.heap.size w w'∧∃(Ar:Option Addr)(nr Cr:Nat),e=ρ (ς Ar nr Cr)∧Zs w' (Lo B) (ς Ar nr Cr) (KH c)∧∀g,(ς Ar nr Cr).ownBlock=some g→w.heap.size≤g
theorem ů(B:Nat)(A:Option Addr)(n C:Nat)(c:F)(w:World)(hf:Fs w (Lo B) (ς A n C) c)(hBw:B≤w.heap.size)(hlen:c.len≤1000000) :
 Calls prog 78 #[ς A n C] w fun e w'=>Qp7 B w c e w':=by
 cases A with
 |none =>
  have hc:c=.nil:=by
   cases c with
   |nil=>rfl
   |cons k x y c r=>obtain⟨b,off,n',C',s,e,_⟩:=hf;injection e with e1 _ _;cases e1
  subst hc;obtain⟨A',C',e,hC⟩:=hf;injection e with e1 e2 e3;subst e2;have HB:=QA (Below.refl w.heap.size w);clear e1 e3 hlen;have hnil:∀W:World,(binOp .eql 22 (ς none 0 C) (ς none 0 0)).run prog W=.ok (τ true) W:=fun _=>rfl
  go_enter func78,ntmps78;go_wp2;go_ret;exact⟨HB.out,none,0,0,rfl,Zs.nil _ _,fun g e=>by cases e⟩
 |some ad =>
  have b1:=Qa w (θ #[] 24);have HO:=QA (Qk6 w B);have Z':=QA b1;obtain⟨A',C',e,Ld,RS⟩:=hf.slice;injection e with e1 e2 e3;have hn:n≤1000000:=ω
  have XO:Hid (w.heap.size≤(w.alloc (θ #[] 24)).heap.size):=b1.size;cases c with
  |nil =>
   have hn0:n=0:=e2;subst hn0;clear e1 e2 e3 hlen hf b1 hn Ld RS;have hnil:∀W:World,(binOp .eql 22 (ς (some ad) 0 C) (ς none 0 0)).run prog W=.ok (τ false) W:=fun _=>rfl
   go_enter func78,ntmps78;go_wp2_with (at_builtin;refine Qwu _ rfl _ _ rfl B w.heap.size _ [] ad C rfl rfl HO.out hBw XO.out ψ ?_);intro v3 w3 UY hb3;obtain⟨a3,c3,rfl,_,_⟩:=UY.slice;have HE:=QA UY.owns;have VG:=QA (Z'.out.trans hb3);clear UY hb3;go_wp2;go_ret;exact⟨VG.out,a3,_,c3,rfl,HE.out.1,HE.out.2⟩
  |cons k x y c r =>
   have had:∃b off,ad=⟨b,off,none⟩:=by obtain⟨b,off,n',C',s,e,_⟩:=hf;injection e with q1 _ _;exact⟨b,off,Option.some.inj q1⟩
   obtain⟨b,off,rfl⟩:=had;have HF:=QA (hf.below b1 hBw);clear e1 e2 e3 hlen hf b1 Ld RS;have hnil:∀W:World,(binOp .eql 22 (ς (some ⟨b,off,none⟩) n C) (ς none 0 0)).run prog W=.ok (τ false) W:=fun _=>rfl
   go_enter func78,ntmps78;go_wp2_with (at_builtin;refine Î _ rfl _ _ rfl B w.heap.size _ [] _ b off n C rfl rfl HO.out HF.out hBw XO.out (by simpa using hn) ?_);intro v3 w3 UY hb3;obtain⟨a3,c3,rfl,_,_⟩:=UY.slice;have HE:=QA UY.owns;have VG:=QA (Z'.out.trans hb3);obtain⟨m3,Nt⟩:∃m,(KH (.cons k x y c r)).length=m:=⟨_,rfl⟩;rw[Nt]at HE⊢;clear UY hb3 Nt;go_wp2;go_ret;exact⟨VG.out,a3,_,c3,rfl,HE.out.1,HE.out.2⟩
theorem ł:∀{c:F},∀nd∈KH c,nd.c.size<c.size
 | .nil,nd,h=>by cases h
 | .cons k x y c r,nd,h=>by
   rcases List.mem_cons.1 h with rfl|h
   ·exact c160
   ·have:=ł (c:=r) nd h;exact c160
def OD(w:World)(N:Nat)(wr:World)(v:Value)(f:F)(vt:Value)(ct:F):Prop:=∀(W':World)(S':Nat→Prop),(∀b,w.heap.size+2≤b→b<N→some b≠v.ownBlock→W'.heap[b]?=wr.heap[b]?)→(∀b,w.heap.size+2≤b→b<N→S' b)→Fs W' S' v f→Fs W' S' vt ct
section
variable {w wr W:World}{N:Nat}{v vt:Value}{f ct:F}
theorem OD.later(h:OD w N wr v f vt ct)(hN:N≤wr.heap.size)(hb:Below wr.heap.size wr W):OD w N W v f vt ct:=fun W' S' h1 h2 h3=>h W' S' (fun b hb0 hb' hne=>(h1 b hb0 hb' hne).trans (hb.block b ω)) h2 h3
theorem OD.grown(h:OD w N wr v f vt ct)(hN:N≤wr.heap.size)(hg:wr.grownBy W v.ownBlock):OD w N W v f vt ct:=fun W' S' h1 h2 h3=>h W' S' (fun b hb0 hb' hne=>(h1 b hb0 hb' hne).trans (hg.block b ω hne)) h2 h3
end
structure Tz(w wr:World)(k:Int)(x y:ByteArray)(vt:Value)(ct:F)(v:Value)(f:F):Prop where
 QF:Below w.heap.size w wr
 b1:Boxed wr w.heap.size k x y vt
 b2:Boxed wr (w.heap.size+1) 0 ⟨#[]⟩ ⟨#[]⟩ (ς none 0 0)
 o:Zs wr (Lo w.heap.size) v (KH f)
 d:∀g,v.ownBlock=some g→w.heap.size+2≤g
 sz:w.heap.size+2≤wr.heap.size
 TZ:OD w wr.heap.size wr v f vt ct
structure YM(w W:World)(N g n C:Nat)(k:Int)(x y:ByteArray)(vt:Value)(ct:F)(v0:Value)(f c0:F)(i:Nat):Prop where
 QF:Below w.heap.size w W
 b1:Boxed W w.heap.size k x y vt
 b2:Boxed W (w.heap.size+1) 0 ⟨#[]⟩ ⟨#[]⟩ (ς none 0 0)
 row:∃ps:List (Nd×Value),ps.map (·.1)=KH f∧W.ownsRow 0 24 4 (ς (some ⟨g,0,none⟩) n C) n (ps.flatMap VC)∧(∀p,ps[0]?=some p→p.2=v0)∧
  (∀j p,1≤j→j≤i→ps[j]?=some p→Fs W (fun b=>N≤b∧b<W.heap.size∧some b≠v0.ownBlock) p.2 p.1.c)∧(∀j p,i<j→ps[j]?=some p→Fs W (Lo w.heap.size) p.2 p.1.c)
 o0:Zs W (Lo w.heap.size) v0 (KH c0)
 d0:∀g0,v0.ownBlock=some g0→N≤g0
 hg:w.heap.size+2≤g∧g<N
 hN:N≤W.heap.size
 TZ:OD w N W (ς (some ⟨g,0,none⟩) n C) f vt ct
theorem Qpb(p:Nd×Value)(ps:List (Nd×Value))(v0:Value):((p::ps).flatMap VC).set 3 v0=((p.1,v0)::ps).flatMap VC:=by simp[VC]
section
variable {w wr W W':World}{N g n C:Nat}{k:Int}{x y:ByteArray}{vt v v0:Value}{ct f c0:F}{i:Nat}
theorem Tz.start{w1:World}{k0:Int}{x0 y0:ByteArray}{r:F}(h:Tz w wr k x y vt ct (ς (some ⟨g,0,none⟩) n C) (.cons k0 x0 y0 c0 r))(hb:Below wr.heap.size wr w1)(ho:Zs w1 (Lo w.heap.size) v0 (KH c0))(hd:∀g0,v0.ownBlock=some g0→wr.heap.size≤g0) :
 YM w (w1.setCell ⟨g,3,none⟩ v0) wr.heap.size g n C k x y vt ct v0 (.cons k0 x0 y0 c0 r) c0 0:=by
 have hg2:=h.d g rfl;have hgl:=h.o.lt (g:=g) rfl;have q1:=h.b1.lt;have q2:=h.b2.lt;have hgr:=Uo w1 g 3 v0;have hor:Zs w1 (Lo w.heap.size) (ς (some ⟨g,0,none⟩) n C) (KH (.cons k0 x0 y0 c0 r)):=h.o.later hb fun b hb'=>VE hb' h.QF.size
 have hlo:∀b,Lo w.heap.size b→b<w1.heap.size∧some b≠some g:=fun b hb'=>by
  have cQ:b<w.heap.size:=hb';have:=h.QF.size;have:=hb.size;exact⟨ω,fun e=>by have:=Option.some.inj e;omega⟩
 have hle:=hb.size;refine⟨(h.QF.trans (hb.mono h.QF.size)).setCell (p:=⟨g,3,none⟩) (show w.heap.size≤g by omega) _,(Below.heap_setCell _ _ _ _ (show w.heap.size≠g by omega)).trans (h.b1.below hb q1),(Below.heap_setCell _ _ _ _ (show w.heap.size+1≠g by omega)).trans (h.b2.below hb q2),?_,ho.grown hgr (.inr fun e=>by have:=hd _ e;omega) hlo,hd,⟨hg2,hgl⟩,QW hle hgr.size,(h.TZ.later (Nat.le_refl _) hb).grown hle hgr⟩;obtain⟨ps,e1,hown,VX⟩:=hor;obtain⟨a',c',e,_,_⟩:=Q0 hown;injection e with _ e2 _;rw[←e2]at hown
 match ps,e1 with
 |p::ps,e1=>have hst:=(hown.stored 3 v0).1;rw[Qpb]at hst;refine⟨(p.1,v0)::ps,e1,hst,fun q hq=>by simp at hq;rw[←hq],fun j q h1 h2=>ω,fun j q hj hq=>?_⟩;obtain⟨j',rfl⟩:∃j',j=j'+1:=⟨j-1,ω⟩;have hm:q∈p::ps:=List.mem_cons_of_mem _ (List.mem_of_getElem? (by simpa using hq));exact(VX q hm).keep fun b hb'=>hgr.block b (hlo b hb').1 (hlo b hb').2
theorem YM.later(h:YM w W N g n C k x y vt ct v0 f c0 i)(hb:Below W.heap.size W W'):YM w W' N g n C k x y vt ct v0 f c0 i:=by
 have hs:=h.QF.size;obtain⟨ps,e1,ho,e0,h1,h2⟩:=h.row;refine⟨h.QF.trans (hb.mono hs),h.b1.below hb h.b1.lt,h.b2.below hb h.b2.lt,⟨ps,e1,?_,e0,fun j p a b c=>((h1 j p a b c).keep fun q hq=>hb.block q hq.2.1).more fun q hq=>⟨hq.1,VE hq.2.1 hb.size,hq.2.2⟩,fun j p a b=>(h2 j p a b).below hb hs⟩,h.o0.later hb fun b hb'=>VE hb' hs,h.d0,h.hg,QW h.hN hb.size,h.TZ.later h.hN hb⟩;exact ho.kept (Jh hb none) (.inr (by simp[Value.ownBlock]))
theorem YM.put{nd:Nd}{s':Value}(h:YM w W N g n C k x y vt ct v0 f c0 i)(hnd:(KH f)[i+1]? = some nd)(hf:Fs W (fun b=>N≤b∧b<W.heap.size∧some b≠v0.ownBlock) s' nd.c) :
 YM w (KD W g (i+1) nd.k nd.x nd.y s') N g n C k x y vt ct v0 f c0 (i+1):=by
 have hg2:=h.hg;have hN:=h.hN;have hgr:=El W g (i+1) nd.k nd.x nd.y s';obtain⟨ps,e1,ho,e0,h1,h2⟩:=h.row;have hil:i+1<ps.length:=by have:=(List.getElem?_eq_some_iff.1 hnd).1;rw[←e1,VD]at this;exact this
 have r1:=(ho.stored ((i+1)*4) (ι γ nd.k)).1;have r2:=(r1.stored ((i+1)*4+1) (σ nd.x)).1;have r3:=(r2.stored ((i+1)*4+2) (σ nd.y)).1;have r4:=(r3.stored ((i+1)*4+3) s').1;rw[Gw (nd,s') ps (i+1) hil]at r4
 have hlo:∀b,Lo w.heap.size b→b<W.heap.size∧some b≠some g:=fun b hb'=>by
  have cQ:b<w.heap.size:=hb';have:=h.QF.size;exact⟨ω,fun e=>by have:=Option.some.inj e;omega⟩
 have XM:∀b,(N≤b∧b<W.heap.size∧some b≠v0.ownBlock)→b<W.heap.size∧some b≠some g:=fun b hb'=>⟨hb'.2.1,fun e=>by have:=Option.some.inj e;have:=hb'.1;omega⟩
 refine⟨h.QF.trans (UL hgr h.QF.size fun q e=>by have:=Option.some.inj e;omega),(hgr.block _ h.b1.lt fun e=>by have:=Option.some.inj e;omega).trans h.b1,(hgr.block _ h.b2.lt fun e=>by have:=Option.some.inj e;omega).trans h.b2,⟨ps.set (i+1) (nd,s'),?_,r4,?_,fun j p a b c=>?_,fun j p a b=>?_⟩,h.o0.grown hgr (.inr fun e=>by have:=h.d0 _ e;omega) hlo,h.d0,h.hg,QW h.hN hgr.size,h.TZ.grown h.hN hgr⟩
 ·rw[List.map_set,e1];apply List.ext_getElem?;intro j;rw[List.getElem?_set];split
  ·rename_i hj
   subst hj;rw[if_pos (by rw[←e1,VD];exact hil)];exact hnd.symm
  ·rfl
 ·intro p hp;rw[List.getElem?_set_ne ω]at hp;exact e0 p hp
 ·by_cases hj:j=i+1
  ·subst hj;rw[List.getElem?_set_self hil]at c;obtain rfl:=Option.some.inj c;exact(hf.keep fun b hb'=>hgr.block b (XM b hb').1 (XM b hb').2).more fun b hb'=>⟨hb'.1,VE hb'.2.1 hgr.size,hb'.2.2⟩
  ·rw[List.getElem?_set_ne (Ne.symm hj)]at c;exact((h1 j p a ω c).keep fun b hb'=>hgr.block b (XM b hb').1 (XM b hb').2).more fun b hb'=>⟨hb'.1,VE hb'.2.1 hgr.size,hb'.2.2⟩
 ·rw[List.getElem?_set_ne ω]at b;exact(h2 j p ω b).keep fun q hq=>hgr.block q (hlo q hq).1 (hlo q hq).2
theorem YM.done{k0:Int}{x0 y0:ByteArray}{r:F}(h:YM w W N g n C k x y vt ct v0 (.cons k0 x0 y0 c0 r) c0 i)(hi:r.len≤i):Tz w W k x y vt ct v0 c0:=by
 have hg2:=h.hg;have hN:=h.hN;refine⟨h.QF,h.b1,h.b2,h.o0,fun g0 e=>by have:=h.d0 g0 e;omega,ω,fun W' S' hw hS hf=>?_⟩;obtain⟨ps,e1,ho,e0,h1,h2⟩:=h.row;obtain⟨a',C',e,Ld,RS⟩:=Q0 ho;have hlen:ps.length=r.len+1:=by
  have:(ps.map (·.1)).length=(KH (.cons k0 x0 y0 c0 r)).length:=by rw[e1]
  rw[VD,Ul]at this;exact this
 have Db:(ps.flatMap VC).length=n*4:=ho.1;rw[Lm.rE Vn]at Db;have hn:ps.length=n:=ω
 have ck:some g≠v0.ownBlock:=fun e=>by have:=h.d0 g e.symm;omega
 have cC:W'.heap[g]?=W.heap[g]?:=hw g hg2.1 ω ck;refine h.TZ W' S' (fun b hb hb' hne=>hw b hb ω fun e=>?_) (fun b hb hb'=>hS b hb ω) ?_
 ·have:=h.d0 b e.symm;omega
 ·have ad:∀j,(⟨g,0,none⟩:Addr).add j=⟨g,j,none⟩:=fun j=>by unfold Addr.add;split <;> simp_all
  have hc:=ho.cells (g:=g) rfl;injection e with _ _ e3
  have hrow:=Yf (w:=W') (S:=S') g (hS g hg2.1 ω) ps 0 n C hn (by rw[←e3]at Ld;exact Ld) (by rw[e3];exact RS) (fun j u hu=>by
   have:=hc j u hu;rw[ad]at this;rw[Nat.zero_add]
   exact(World.cell?_of_block (a:=⟨g,j,none⟩) cC).trans this) (fun p hp=>by
    obtain⟨j,hj⟩:=List.getElem?_of_mem hp;have hjl:j<ps.length:=(List.getElem?_eq_some_iff.1 hj).1;by_cases Mf:j=0
    ·subst Mf;have hp1:p.1=⟨k0,x0,y0,c0⟩:=by
      have:(ps.map (·.1))[0]?=some p.1:=by rw[List.getElem?_map,hj];rfl
      rw[e1]at this;exact(Option.some.inj this).symm
     rw[e0 p hj,hp1];exact hf
    ·exact((h1 j p ω ω hj).keep fun b hb'=>hw b (by have:=hb'.1;omega) hb'.2.1 hb'.2.2).more fun b hb'=>hS b (by have:=hb'.1;omega) hb'.2.1) _ (.inr rfl)
  have e4:YG (ps.map (·.1))=.cons k0 x0 y0 c0 r:=by rw[e1,yK]
  rwa[e4]at hrow
theorem Tz.fin{A:Option Addr}{m M:Nat}(h:Tz w wr k x y vt ct (ς A m M) .nil):Fs wr (fun b=>w.heap.size+2≤b∧b<wr.heap.size) vt ct:=by
 obtain⟨a',c',e,_,hc⟩:=h.o.slice;injection e with e1 e2 e3;exact h.TZ wr _ (fun _ _ _ _=>rfl) (fun b hb hb'=>⟨hb,hb'⟩) ⟨A,M,by rw[e2];rfl,by rw[e3];exact hc⟩
theorem YM.at_(h:YM w W N g n C k x y vt ct v0 f c0 i){j:Nat}{nd:Nd}(hj:(KH f)[j]?=some nd) :
 ∃s,W.cell? ⟨g,j*4,none⟩=some (ι γ nd.k)∧W.cell? ⟨g,j*4+1,none⟩=some (σ nd.x)∧W.cell? ⟨g,j*4+2,none⟩=some (σ nd.y)∧W.cell? ⟨g,j*4+3,none⟩=some s∧(i<j→Fs W (Lo w.heap.size) s nd.c)∧(j=0→s=v0):=by
 obtain⟨ps,e1,ho,e0,h1,h2⟩:=h.row;have hjl:j<ps.length:=by have:=(List.getElem?_eq_some_iff.1 hj).1;rw[←e1,VD]at this;exact this
 obtain⟨p,hp⟩:∃p,ps[j]?=some p:=⟨_,List.getElem?_eq_getElem hjl⟩;have GZ:p.1=nd:=by
  have:(ps.map (·.1))[j]?=some p.1:=by rw[List.getElem?_map,hp];rfl
  rw[e1,hj]at this;exact(Option.some.inj this).symm
 have hc:=ho.cells (g:=g) rfl;have ad:∀j,(⟨g,0,none⟩:Addr).add j=⟨g,j,none⟩:=fun j=>by unfold Addr.add;split <;> simp_all
 have at_:∀t u,(VC p)[t]? = some u→W.cell? ⟨g,j*4+t,none⟩=some u:=fun t u hu=>by
  have:=hc (j*4+t) u (Lm.Uz (sz:=4) Vn ps j p hp t u hu);rwa[ad]at this
 refine⟨p.2,?_,?_,?_,at_ 3 _ rfl,fun hij=>?_,fun h0=>by subst h0;exact e0 p hp⟩
 ·have:=at_ 0 _ rfl;rwa[GZ]at this
 ·have:=at_ 1 _ rfl;rwa[GZ]at this
 ·have:=at_ 2 _ rfl;rwa[GZ]at this
 ·have:=h2 j p hij hp;rwa[GZ]at this
theorem YM.dL(h:YM w W N g n C k x y vt ct v0 f c0 i)(j:Nat):W.frozen? ⟨g,j*4,none⟩=false∧W.frozen? ⟨g,j*4+1,none⟩=false∧W.frozen? ⟨g,j*4+2,none⟩=false∧W.frozen? ⟨g,j*4+3,none⟩=false:=by
 obtain⟨ps,_,ho,_⟩:=h.row;exact⟨ho.frozenAt _,ho.frozenAt _,ho.frozenAt _,ho.frozenAt _⟩
end
theorem Zs.JO{w:World}{S:Nat→Prop}{g n c:Nat}{L:List Nd}(h:Zs w S (ς (some ⟨g,0,none⟩) n c) L)(j:Nat):w.frozen? ⟨g,j,none⟩=false:=by
 obtain⟨ps,_,ho,_⟩:=h;obtain⟨_,_,e,_,_⟩:=Q0 ho;injection e with _ e2 _;rw[←e2]at ho;exact ho.frozenAt j
def Qp3(w:World)(k:Int)(x y:ByteArray)(c:F)(e:Ending)(w':World):Prop:=Below w.heap.size w w'∧∃(Ar:Option Addr)(nr Cr:Nat),e=ρ (ξ #[ι γ k,σ x,σ y,ς Ar nr Cr])∧Fs w' (Ll w.heap.size w') (ς Ar nr Cr) c
def TF(W:World)(v:Value):Prop:=∀g,v.ownBlock=some g→∃vals,W.heap[g]?=some (θ vals 24 (0,0))
theorem TF.below{W W':World}{v:Value}(h:TF W v)(hb:Below W.heap.size W W'):TF W' v:=fun g e=>by
 obtain⟨vals,q⟩:=h g e;exact⟨vals,(hb.block g (lt_of_block q)).trans q⟩
theorem TF.set{W:World}{v:Value}(h:TF W v)(b off:Nat)(u:Value):TF (W.setCell ⟨b,off,none⟩ u) v:=fun g e=>by
 obtain⟨vals,q⟩:=h g e;by_cases hb:g=b
 ·subst hb;exact⟨_,Z8 q off u⟩
 ·exact⟨vals,(Below.heap_setCell _ _ _ _ hb).trans q⟩
theorem Zs.tf{w:World}{S:Nat→Prop}{v:Value}{L:List Nd}(h:Zs w S v L):TF w v:=fun g e=>by
 obtain⟨ps,h1,ho,hf⟩:=h;rcases ho.2 with⟨e0,h0⟩|⟨g',cap,cur,hv,hg0,hg,q1,q2,q3,q4⟩
 ·rw[e0]at e;cases e
 ·rw[hv]at e;obtain rfl:=Option.some.inj e;exact⟨_,hg⟩
def Ql7(w:World)(k:Int)(x y:ByteArray)(c:F)(e:Ending)(w':World):Prop:=Below w.heap.size w w'∧∃(Ar:Option Addr)(nr Cr:Nat),e=ρ (ξ #[ι γ k,σ x,σ y,ς Ar nr Cr])∧Fs w' (Ll w.heap.size w') (ς Ar nr Cr) c∧TF w' (ς Ar nr Cr)
def Yl(N:Nat):Prop:=∀(k:Int)(x y:ByteArray)(A:Option Addr)(n C:Nat)(c:F)(w:World),c.size≤N→c.size≤100000→Fs w (Lo w.heap.size) (ς A n C) c→
 Calls Tryz.prog 56 #[ξ #[ι γ k,σ x,σ y,ς A n C]] w fun e w'=>Ql7 w k x y c e w'
def iQ(N:Nat):Prop:=∀(k:Int)(x y:ByteArray)(A:Option Addr)(n C:Nat)(c:F)(w:World),c.size≤N→c.size≤100000→Fs w (Lo w.heap.size) (ς A n C) c→
 Calls Tryz.prog 56 #[ξ #[ι γ k,σ x,σ y,ς A n C]] w fun e w'=>Qp3 w k x y c e w'
theorem Qkg(N:Nat)(ih:∀M,M<N→iQ M):Yl N:=by
 intro k x y A n C c w hN hbig hf;have Sm:=QA ih;have b1:=Qt w (θ #[ι γ k,σ x,σ y,ς A n C] 24) (θ #[ι γ 0,σ ⟨#[]⟩,σ ⟨#[]⟩,ς none 0 0] 24);have MM:=QA (ů w.heap.size A n C c _ (hf.below b1 (Nat.le_refl _)) b1.size (QW (F.QL c) ω));have Pn:Hid (Boxed ((w.alloc (θ #[ι γ k,σ x,σ y,ς A n C] 24)).alloc (θ #[ι γ 0,σ ⟨#[]⟩,σ ⟨#[]⟩,ς none 0 0] 24)) w.heap.size k x y (ς A n C)):=(Below.heap_alloc _ _ _ ψ).trans (heap_alloc_new _ _);have oU:Hid (Boxed ((w.alloc (θ #[ι γ k,σ x,σ y,ς A n C] 24)).alloc (θ #[ι γ 0,σ ⟨#[]⟩,σ ⟨#[]⟩,ς none 0 0] 24)) (w.heap.size+1) 0 ⟨#[]⟩ ⟨#[]⟩ (ς none 0 0)):=by
  have e:w.heap.size+1=(w.alloc (θ #[ι γ k,σ x,σ y,ς A n C] 24)).heap.size:=ψ
  rw[e];exact heap_alloc_new _ _
 have Hi:Hid (((w.alloc (θ #[ι γ k,σ x,σ y,ς A n C] 24)).alloc (θ #[ι γ 0,σ ⟨#[]⟩,σ ⟨#[]⟩,ς none 0 0] 24)).heap.size=w.heap.size+2):=by show _=_;simp
 have JP:=QA b1;clear ih hf b1;go_enter Tryz.func56,Tryz.ntmps56;go_wp2_with fail;refine MM.out.mono ?_;rintro e w3 ⟨hb3,At,nt,Ct,rfl,UY,hd3⟩;have hx1:=Pn.out.below hb3 Pn.out.lt;have hx2:=oU.out.below hb3 oU.out.lt;have HM:Hid (Tz w (w3.setCell ⟨w.heap.size,3,none⟩ (ς At nt Ct)) k x y (ς At nt Ct) c (ς At nt Ct) c):=by
  have hs:=hb3.size;have hs2:=Hi.out;have hgr:=Uo w3 w.heap.size 3 (ς At nt Ct);refine⟨(JP.out.trans (hb3.mono JP.out.size)).setCell (p:=⟨w.heap.size,3,none⟩) (Nat.le_refl _) _,?_,(Below.heap_setCell _ _ _ _ (show w.heap.size+1≠w.heap.size by omega)).trans hx2,UY.grown hgr (.inr fun e=>by have:=hd3 _ e;omega) fun b hb=>?_,fun g e=>by have:=hd3 g e;omega,QW ω hgr.size,fun W' S' _ _ h=>h⟩
  ·have:=Z8 hx1 3 (ς At nt Ct);unfold Boxed;simpa using this
  ·have hb':b<w.heap.size:=hb;exact⟨ω,fun e=>by have:=Option.some.inj e;omega⟩
 have yV:Hid (TF (w3.setCell ⟨w.heap.size,3,none⟩ (ς At nt Ct)) (ς At nt Ct)):=UY.tf.set _ _ _;obtain⟨y0,y1,y2,y3⟩:=JO hx1;obtain⟨T4,S9,S8,S7⟩:=hx1.cells;obtain⟨p0,p1,p2,p3⟩:=HM.out.b1.cells;clear hx1 hx2 UY hd3 hb3 MM Pn oU Hi JP;go_wp2;clear p0 p1 p2 p3 T4 S9 S8 S7 y0 y1 y2 y3
 go_loopg [3] (c.size+1) (fun p s3 wr=>∃(A:Option Addr)(n C:Nat)(f:F),f.size<p∧f.size≤N∧f.size≤100000∧s3=ς A n C∧Hid (Tz w wr k x y (ς At nt Ct) c (ς A n C) f)∧Hid (TF wr (ς At nt Ct)))
 case atStart=>exact⟨At,nt,Ct,c,ω,hN,hbig,rfl,HM.out,yV.out⟩
 case round =>
  clear HM hN hbig yV;obtain⟨A1,n1,C1,f,hsz,hN,hbig,rfl,HM,aq⟩:=hrel;cases Rj:f with
  |nil=>rw[Rj]at HM;obtain⟨a',c',e,_,_⟩:=HM.out.o.slice;injection e with e1 e2 e3;have hn0:n1=0:=e2;subst hn0;have VX:=HM.out.fin;obtain⟨p0,p1,p2,p3⟩:=HM.out.b1.cells;obtain⟨y0,y1,y2,y3⟩:=JO HM.out.b2;obtain⟨T4,S9,S8,S7⟩:=HM.out.b2.cells;have QP:=QA VX;clear e1 e2 e3 Rj VX;go_wp2;refine bodyPost_ret (results_cell_row rfl _ _ (w.heap.size+1) 24 _ (0,0) _ rfl (X3 HM.out.b2) Tryz.underlying24 rfl pY) rfl ?_;have hbb:=Ji wr (w.heap.size+1) (ι γ k) (σ x) (σ y) (ς At nt Ct);exact⟨HM.out.QF.trans (hbb.mono (Nat.le_succ _)),At,nt,Ct,rfl,(QP.out.keep fun b hb=>Vr _ _ _ _ _ _ _ (by have:=hb.1;omega)).more fun b hb=>⟨QW ω hb.1,Nat.lt_of_lt_of_le hb.2 hbb.size⟩,(((aq.out.set _ _ _).set _ _ _).set _ _ _).set _ _ _⟩
  |cons k0 x0 y0 c0 r =>
   rw[Rj]at HM hsz hN hbig;have kQ:(KH (.cons k0 x0 y0 c0 r))[0]?=some ⟨k0,x0,y0,c0⟩:=rfl;have hlen:n1=r.len+1:=by obtain⟨a',c',e,_,_⟩:=HM.out.o.slice;injection e with e1 e2 e3;rw[e2,Ul];rfl
   have hcap:n1≤C1∧C1≤9223372036854775807:=by obtain⟨a',c',e,h1,h2⟩:=HM.out.o.slice;injection e with e1 e2 e3;exact⟨ω,by rw[e3];exact h2⟩
   obtain⟨Ld,RS⟩:=hcap;obtain⟨g,s0,rfl,hgl,d0,d1,d2,d3,EK⟩:=HM.out.o.at_ kQ;obtain⟨A0,C0,rfl,_,_⟩:=EK.slice;simp only[F.size]at hsz hN hbig;obtain⟨n0,hn0⟩:=Mem.QD (c0.len);rw[hn0]at d3 EK;have hl0:=F.QL c0;have hlr:=F.QL r;have MM:=QA (ů w.heap.size A0 n0 C0 c0 wr EK HM.out.QF.size ω);have zN:wr.cell? ⟨g,3,none⟩=some (ς A0 n0 C0):=by simpa using d3
   obtain⟨A',n',C',hsl,en,eC,hA'⟩:=Ju g 0 n1 C1 ω Ld;have hn':n'=r.len:=ω
   have FT:C'≤9223372036854775807:=ω
   have Q2j:n'≤C':=ω
   have Ri:(0:Int)<(n1:Int):=ω
   have Dz:Hid (n'=0∨A'=some ⟨g,4,none⟩):=by rcases hA' with h|h;exact .inl ω;exact .inr (by rw[h])
   have Q2k:n'≤100000:=ω
   have ja:=QA hn';have J':=QA hlen;clear Rj kQ d0 d1 d2 d3 EK hn0 hl0 hA' en eC hn' hlr hlen;go_wp2_with fail;refine MM.out.mono ?_;rintro e w4 ⟨hb4,A4,n4,C4,rfl,F5,I5⟩;have HI:=QA (HM.out.start hb4 F5 I5);have yU:=QA ((aq.out.below hb4).set g 3 (ς A4 n4 C4));have hz:=HM.out.o.later hb4 fun b hb=>Nat.lt_of_lt_of_le hb HM.out.QF.size
   have hzf:=hz.JO 3;have Np:=(hb4.cell (p:=⟨g,3,none⟩) hgl).trans zN;have uQ:=QA hgl;clear hb4 F5 I5 hz MM HM hgl zN;go_wp2;clear hzf Np
   go_loopw [30] (fun jv W=>∃i:Nat,i≤n'∧jv=ι γ (i:Int)∧Hid (YM w W wr.heap.size g n1 C1 k x y (ς At nt Ct) c (ς A4 n4 C4) (.cons k0 x0 y0 c0 r) c0 i)∧Hid (TF W (ς At nt Ct))) (fun jv _=>n'-(intOf jv).toNat)
   case atStart=>exact⟨0,Nat.zero_le _,rfl,HI.out,yU.out⟩
   case round =>
    clear HI yU aq;obtain⟨i,hi,rfl,HI,yU⟩:=hrel
    rename World=>W
    by_cases hlt:i<n'
    ·obtain rfl:=Dz.out.resolve_left ω;have hlt':(i:Int)<(n':Int):=ω
     have hi0:(0:Int)≤(i:Int):=ω
     have hi1:(i:Int)+1<(n1:Int):=by have:=J'.out;have:=ja.out;omega
     obtain⟨⟨kk,kx,ky,kc⟩,hnd⟩:∃nd,(KH (.cons k0 x0 y0 c0 r))[i+1]?=some nd:=⟨_,List.getElem?_eq_getElem (by rw[Ul];have:=ja.out;simp only[F.len];omega)⟩;obtain⟨s,e0,e1,e2,e3,FF,_⟩:=HI.out.at_ hnd;have FF:=FF (Nat.lt_succ_self _);dsimp only at e0 e1 e2 FF;obtain⟨Ak,Ck,rfl,_,_⟩:=FF.slice;obtain⟨kn,hkn⟩:=Mem.QD (kc.len);rw[hkn]at e3 FF;rw[show(i+1)*4=4+i*4 by omega]at e0 e1 e2 e3;have hmem:=ł _ (List.mem_of_getElem? hnd);dsimp only[F.size]at hmem;have b5:=Qa W (θ #[ι γ kk,σ kx,σ ky,ς Ak kn Ck] 24);have HC:=QA (Sm.out kc.size ω kk kx ky Ak kn Ck kc _ (Nat.le_refl _) ω (((FF.below b5 HI.out.QF.size).up (QW HI.out.QF.size b5.size))));have sI:=QA (HI.out.later b5);have ar:=QA (yU.out.below b5);have ME:=QA hnd;have II:Hid (W.heap.size≤(W.alloc (θ #[ι γ kk,σ kx,σ ky,ς Ak kn Ck] 24)).heap.size):=b5.size;clear hnd FF hkn hmem b5;go_wp2_with fail;refine HC.out.mono ?_;rintro e w6 ⟨VH,Ar,nr,Cr,rfl,Sy⟩;have lQ:=sI.out.later VH;obtain⟨s6,u0,u1,u2,u3,_,_⟩:=lQ.at_ ME.out;obtain⟨z0,z1,z2,z3⟩:=lQ.dL (i+1);have HP:=lQ.put ME.out (Sy.more fun b hb=>⟨QW sI.out.hN hb.1,hb.2,fun e=>by have:=sI.out.o0.lt e.symm;have:=hb.1;omega⟩);unfold KD at HP;have LG:=QA (ar.out.below VH);have rW:=QA HP;clear lQ HP Sy VH HI sI HC e0 e1 e2 e3;go_wp2
     go_roundw
     case rel=>exact⟨i+1,ω,by go_num,rW.out,(((LG.out.set _ _ _).set _ _ _).set _ _ _).set _ _ _⟩
     case measure=>simp[intOf];omega
    ·have hlt':¬(i:Int)<(n':Int):=ω
     obtain⟨s,e0,e1,e2,e3,_,hs⟩:=HI.out.at_ (j:=0) (nd:=⟨k0,x0,y0,c0⟩) rfl;obtain rfl:=hs rfl;have e3':W.cell? ⟨g,3,none⟩=some (ς A4 n4 C4):=by simpa using e3
     have HD:=QA (HI.out.done (by have:=ja.out;omega));clear e0 e1 e2 e3 hs hlt;go_wp2
     go_roundg (c0.size+1)
     case measure=>omega
     case rel=>exact⟨A4,n4,C4,c0,ω,ω,ω,rfl,HD.out,yU.out⟩
theorem Yl.plain{N:Nat}(h:Yl N):iQ N:=fun k x y A n C c w h1 h2 h3=>(h k x y A n C c w h1 h2 h3).mono fun e w' hp=>by
 obtain⟨hb,Ar,nr,Cr,e1,hf,_⟩:=hp;exact⟨hb,Ar,nr,Cr,e1,hf⟩
theorem Ei(N:Nat):Yl N:=by
 induction N using Nat.strongRecOn with
 |_ N ih=>exact Qkg N fun M hM=>(ih M hM).plain
theorem Qe8(N:Nat):iQ N:=(Ei N).plain
def E3(k:Int)(x y:ByteArray)(n:Nat)(k':Int)(x' y':ByteArray)(n':Nat):Bool:=k==k'&&(x.toList==x'.toList&&(y.toList==y'.toList&&decide (n=n')))
def L5(k:Int)(x y:ByteArray)(c:F)(k':Int)(x' y':ByteArray)(c':F):Bool:=k==k'&&(x.toList==x'.toList&&(y.toList==y'.toList&&same c c'))
theorem ù:∀{f g:F},same f g=true→f.len=g.len
 | .nil,.nil,_=>rfl
 | .nil,.cons ..,h=>by simp[same]at h
 | .cons ..,.nil,h=>by simp[same]at h
 | .cons k x y c r,.cons k' x' y' c' r',h=>by
   simp only[same,Bool.and_eq_true]at h;simp only[F.len,ù h.2]
theorem Qva(k:Int)(x y:ByteArray)(c r:F)(k':Int)(x' y':ByteArray)(c' r':F):same (.cons k x y c r) (.cons k' x' y' c' r')=(L5 k x y c k' x' y' c'&&same r r'):=by
 simp only[same,L5,Bool.and_assoc]
theorem Qm1{k:Int}{x y:ByteArray}{c:F}{k':Int}{x' y':ByteArray}{c':F}(h:E3 k x y c.len k' x' y' c'.len=false):L5 k x y c k' x' y' c'=false:=by
 unfold L5;unfold E3 at h;cases hs:same c c' with
 |false=>simp
 |true=>rw[decide_eq_true (ù hs),Bool.and_true]at h;rw[Bool.and_true];exact h
theorem Qtg{k:Int}{x y:ByteArray}{c:F}{k':Int}{x' y':ByteArray}{c':F}(h:E3 k x y c.len k' x' y' c'.len=true):L5 k x y c k' x' y' c'=same c c'∧c.len=c'.len:=by
 unfold E3 at h;unfold L5;simp only[Bool.and_eq_true,decide_eq_true_eq]at h;obtain⟨h1,h2,h3,h4⟩:=h;rw[h1,h2,h3];exact⟨ψ,h4⟩
def â(b:Bool)(w:World)(e:Ending)(w':World):Prop:=e=ρ (τ b)∧Below w.heap.size w w'
structure MAt(w W:World)(k:Int)(x y:ByteArray)(s:Value)(c:F)(k':Int)(x' y':ByteArray)(s':Value)(c':F):Prop where
 QF:Below w.heap.size w W
 b2:Boxed W w.heap.size k x y s
 b3:Boxed W (w.heap.size+1) k' x' y' s'
 f2:Fs W (Lo w.heap.size) s c
 f3:Fs W (Lo w.heap.size) s' c'
structure MQ(w W:World)(k:Int)(x y:ByteArray)(s:Value)(kb:Int)(xb yb:ByteArray)(sb:Value)(k2:Int)(x2 y2:ByteArray)(s2:Value)(q:Bool):Prop where
 QF:Below w.heap.size w W
 b2:Boxed W w.heap.size k x y s
 b3:q=false→Boxed W (w.heap.size+1) k2 x2 y2 s2
 b4:q=true→Boxed W (w.heap.size+1) kb xb yb sb
section
variable {w W W':World}{k kb k2:Int}{x y xb yb x2 y2:ByteArray}{s sb s2:Value}{q:Bool}
end
def E4(N:Nat):Prop:=∀(k:Int)(x y:ByteArray)(A:Option Addr)(n C:Nat)(c:F)(k':Int)(x' y':ByteArray)(A':Option Addr)(n' C':Nat)(c':F)(w:World),c.size≤N→c.size≤100000→Fs w (Lo w.heap.size) (ς A n C) c→Fs w (Lo w.heap.size) (ς A' n' C') c'→
 Calls prog 20 #[ξ #[ι γ k,σ x,σ y,ς A n C],ξ #[ι γ k',σ x',σ y',ς A' n' C']] w fun e w'=>â (L5 k x y c k' x' y' c') w e w'
theorem Quj(N:Nat)(ih:∀M,M<N→E4 M):E4 N:=by
 intro k x y A n C c k' x' y' A' n' C' c' w hN hbig hf hf';have Sm:=Lib.hid ih;have b1:=Qt w (θ #[ι γ k,σ x,σ y,ς A n C] 24) (θ #[ι γ k',σ x',σ y',ς A' n' C'] 24);have HB:=Lib.hid b1;have oU:Hid (Boxed ((w.alloc (θ #[ι γ k,σ x,σ y,ς A n C] 24)).alloc (θ #[ι γ k',σ x',σ y',ς A' n' C'] 24)) w.heap.size k x y (ς A n C)):=(Below.heap_alloc _ _ _ ψ).trans (heap_alloc_new _ _);have H5:Hid (Boxed ((w.alloc (θ #[ι γ k,σ x,σ y,ς A n C] 24)).alloc (θ #[ι γ k',σ x',σ y',ς A' n' C'] 24)) (w.heap.size+1) k' x' y' (ς A' n' C')):=by
  have e:w.heap.size+1=(w.alloc (θ #[ι γ k,σ x,σ y,ς A n C] 24)).heap.size:=ψ
  rw[e];exact heap_alloc_new _ _
 have HF:=Lib.hid hf;have HF':=Lib.hid hf';obtain⟨_,_,e,Ld,RS⟩:=hf.slice;injection e with q1 q2 q3;obtain⟨_,_,e',Q2j,FT⟩:=hf'.slice;injection e' with q1' q2' q3';have qX:=Lib.hid q2;have BH:=Lib.hid q2';have Ri:n≤100000:=by have:=F.QL c;omega
 have lU:C≤9223372036854775807:=ω
 have lT:C'≤9223372036854775807:=ω
 have hc1:n≤C:=ω
 have hc2:n'≤C':=ω
 obtain⟨res,hres⟩:=Mem.QD (L5 k x y c k' x' y' c');rw[hres];have P':=Lib.hid hres;clear ih hf hf' b1 hres q1 q2 q3 q1' q2' q3' Ld Q2j RS FT;cases hal:E3 k x y n k' x' y' n' with
 |false =>
  have HE:Hid (res=false):=by show _=_;rw[←P'.out,Qm1 (by rw[←qX.out,←BH.out];exact hal)]
  unfold E3 at hal;cases hk:(k==k')with
  |false =>
   have hkn:(k != k')=true:=by rw[bne,hk];rfl
   exact c156
  |true =>
   have hkn:(k != k')=false:=by rw[bne,hk];rfl
   cases hx:(x.toList==x'.toList)with
   |false=>exact c156
   |true =>
    cases hy:(y.toList==y'.toList)with
    |false=>exact c156
    |true =>
     have hn:¬n=n':=by rw[hk,hx,hy]at hal;simpa using hal
     have hn':((n:Int)==(n':Int))=false:=by
      have:¬((n:Int)=(n':Int)):=ω
      simpa using this
     have hnn:((n:Int) != (n':Int))=true:=by rw[bne,hn'];rfl
     exact c156
 |true =>
  obtain⟨Cz,hll⟩:=Qtg (c:=c) (c':=c') (by rw[←qX.out,←BH.out];exact hal);have HR:Hid (same (c.drop 0) (c'.drop 0)=res):=by show same c c'=_;rw[←Cz];exact P'.out
  have hnn:n=n':=by rw[qX.out,BH.out];exact hll
  unfold E3 at hal;simp only[Bool.and_eq_true,decide_eq_true_eq]at hal;obtain⟨hk,hx,hy,_⟩:=hal;have hkn:(k != k')=false:=by rw[bne,hk];rfl
  subst hnn;clear Cz hll;go_enter func20,ntmps20;go_wp2;clear hk hx hy hkn
  go_loopw [5] (fun s5 wr=>∃j:Nat,j≤n∧s5=ι γ (j:Int)∧Hid (same (c.drop j) (c'.drop j)=res)∧Hid (Below w.heap.size w wr)∧Hid (Boxed wr w.heap.size k x y (ς A n C))∧Hid (Boxed wr (w.heap.size+1) k' x' y' (ς A' n C'))) (fun s5 _=>n-(intOf s5).toNat)
  case atStart=>exact⟨0,Nat.zero_le _,rfl,HR.out,HB.out,oU.out,H5.out⟩
  case round =>
   clear HR HB oU H5;obtain⟨j,hj,rfl,HR,HB,oU,H5⟩:=hrel;obtain⟨p0,p1,p2,p3⟩:=oU.out.cells;by_cases hlt:j<n
   ·have hlt':(j:Int)<(n:Int):=ω
    have Mf:(0:Int)≤(j:Int):=ω
    obtain⟨k1,x1,y1,c1,r1,hd1,Q26⟩:=F.drop_cons (n:=j) (f:=c) (by rw[←qX.out];exact hlt);obtain⟨k2,x2,y2,c2,r2,hd2,P4⟩:=F.drop_cons (n:=j) (f:=c') (by rw[←BH.out];exact hlt);have hw1:=HF.out.below HB.out (Nat.le_refl _);have hw2:=HF'.out.below HB.out (Nat.le_refl _);obtain⟨ba,oa,s1,rfl,xS,_,L4⟩:=hw1.at_ hd1;obtain⟨bb,ob,s2,rfl,hbb,_,VA⟩:=hw2.at_ hd2;obtain⟨Ak,Ck,rfl,_,_⟩:=L4.kids.slice;obtain⟨Al,Cl,rfl,_,_⟩:=VA.kids.slice;have hs1:=Ge hd1;obtain⟨m1,EJ⟩:∃m,c1.len=m:=⟨_,rfl⟩;obtain⟨m2,hm2⟩:∃m,c2.len=m:=⟨_,rfl⟩;rw[EJ]at L4;rw[hm2]at VA;have Wt:ba<wr.heap.size:=Nat.lt_of_lt_of_le xS HB.out.size;have hlb:bb<wr.heap.size:=Nat.lt_of_lt_of_le hbb HB.out.size;have ME:Hid (∀W,Below wr.heap.size wr W→(W.cell? ⟨ba,oa+j*4,none⟩=some (ι γ k1)∧W.cell? ⟨ba,oa+j*4+1,none⟩=some (σ x1)∧W.cell? ⟨ba,oa+j*4+2,none⟩=some (σ y1)∧W.cell? ⟨ba,oa+j*4+3,none⟩=some (ς Ak m1 Ck))∧
     (W.cell? ⟨bb,ob+j*4,none⟩=some (ι γ k2)∧W.cell? ⟨bb,ob+j*4+1,none⟩=some (σ x2)∧W.cell? ⟨bb,ob+j*4+2,none⟩=some (σ y2)∧W.cell? ⟨bb,ob+j*4+3,none⟩=some (ς Al m2 Cl))):=fun W hW =>
     ⟨⟨(hW.cell (p:=⟨ba,oa+j*4,none⟩) Wt).trans L4.c0,(hW.cell (p:=⟨ba,oa+j*4+1,none⟩) Wt).trans L4.c1,(hW.cell (p:=⟨ba,oa+j*4+2,none⟩) Wt).trans L4.c2,(hW.cell (p:=⟨ba,oa+j*4+3,none⟩) Wt).trans L4.c3⟩,
       (hW.cell (p:=⟨bb,ob+j*4,none⟩) hlb).trans VA.c0,(hW.cell (p:=⟨bb,ob+j*4+1,none⟩) hlb).trans VA.c1,(hW.cell (p:=⟨bb,ob+j*4+2,none⟩) hlb).trans VA.c2,(hW.cell (p:=⟨bb,ob+j*4+3,none⟩) hlb).trans VA.c3⟩
    have HX:Hid (∀W,Below wr.heap.size wr W→Boxed W w.heap.size k x y (ς (some ⟨ba,oa,none⟩) n C)∧Boxed W (w.heap.size+1) k' x' y' (ς (some ⟨bb,ob,none⟩) n C')):=fun W hW=>⟨oU.out.below hW oU.out.lt,H5.out.below hW H5.out.lt⟩
    obtain⟨sm,hsm⟩:=Mem.QD (L5 k1 x1 y1 c1 k2 x2 y2 c2)
    have HC:Hid (∀W,Below wr.heap.size wr W→Calls prog 20 #[ξ #[ι γ k1,σ x1,σ y1,ς Ak m1 Ck],ξ #[ι γ k2,σ x2,σ y2,ς Al m2 Cl]] W fun e w'=>â sm W e w'):=fun W hW=>by
     rw[←hsm];have hs:=Nat.le_trans HB.out.size hW.size;exact Sm.out c1.size ω k1 x1 y1 Ak m1 Ck c1 k2 x2 y2 Al m2 Cl c2 W (Nat.le_refl _) ω ((L4.kids.below hW HB.out.size).up hs) ((VA.kids.below hW HB.out.size).up hs)
    have R6:=HR.out;rw[hd1,hd2,Qva,hsm]at R6;have rU:Hid ((sm&&same (c.drop (j+1)) (c'.drop (j+1)))=res):=by show _=_;rw[Q26,P4];exact R6
    clear hd1 Q26 hd2 P4 hw1 hw2 xS hbb hlb Wt L4 VA hs1 EJ hm2 hsm R6 HR oU H5;go_wp2;clear p0 p1 p2 p3;refine Qv [Cd.is (π (some ⟨w.heap.size,3,none⟩)),Cd.is (ς (some ⟨ba,oa,none⟩) n C),Cd.is (ι γ (j:Int)),Cd.is (π (some ⟨ba,oa+j*4,none⟩)),Cd.is (ξ #[ι γ k1,σ x1,σ y1,ς Ak m1 Ck]),Cd.is (π (some ⟨w.heap.size+1,3,none⟩)),Cd.is (ς (some ⟨bb,ob,none⟩) n C'),Cd.is (ι γ (j:Int)),Cd.is (π (some ⟨bb,ob+j*4,none⟩)),Cd.is (ξ #[ι γ k2,σ x2,σ y2,ς Al m2 Cl]),Cd.is (τ sm),Cd.is (τ (!sm))] ?steps ?behind
    case steps =>
     intro xv W hW;refine⟨?s0,?s1,?s2,?s3,?s4,?s5,?s6,?s7,?s8,?s9,?JQ,?GA,trivial⟩;all_goals intro hd K hK
     all_goals(try simp only[Act.put,List.setIfInBounds_toArray,List.set_cons_succ,List.set_cons_zero]at hK)
     case s0|s2|s5|s7=>clear hd;exact c16
     case s1=>have hx0:xv 0=π (some ⟨w.heap.size,3,none⟩):=hd 0;clear hd;rw[hx0]at hK⊢;obtain⟨hq0,hq1,hq2,Ns⟩:=(HX.out W hW).1.cells;exact c16
     case s3=>have hx1:xv 1=ς (some ⟨ba,oa,none⟩) n C:=hd 1;have hx2:xv 2=ι γ (j:Int):=hd 2;clear hd;rw[hx1]at hK⊢;rw[hx2]at hK⊢;exact c16
     case s4=>have hx3:xv 3=π (some ⟨ba,oa+j*4,none⟩):=hd 3;clear hd;rw[hx3]at hK⊢;obtain⟨hq0,hq1,hq2,Ns⟩:=(ME.out W hW).1;exact c16
     case s6=>have JB:xv 5=π (some ⟨w.heap.size+1,3,none⟩):=hd 5;clear hd;rw[JB]at hK⊢;obtain⟨hq0,hq1,hq2,Ns⟩:=(HX.out W hW).2.cells;exact c16
     case s8=>have JR:xv 6=ς (some ⟨bb,ob,none⟩) n C':=hd 6;have YX:xv 7=ι γ (j:Int):=hd 7;clear hd;rw[JR]at hK⊢;rw[YX]at hK⊢;exact c16
     case s9=>have UX:xv 8=π (some ⟨bb,ob+j*4,none⟩):=hd 8;clear hd;rw[UX]at hK⊢;obtain⟨hq0,hq1,hq2,Ns⟩:=(ME.out W hW).2;exact c16
     case JQ=>have JJ:xv 4=ξ #[ι γ k1,σ x1,σ y1,ς Ak m1 Ck]:=hd 4;have Lx:xv 9=ξ #[ι γ k2,σ x2,σ y2,ς Al m2 Cl]:=hd 9;clear hd;rw[JJ]at hK⊢;rw[Lx]at hK⊢;go_simp;go_at_call 20;refine(HC.out W hW).mono ?_;exact c128
     case GA=>have ZE:xv 10=τ sm:=hd 10;clear hd;rw[ZE]at hK⊢;exact c16
    case behind =>
     intro xv W hW hx;have h11:xv 11=τ (!sm):=hx 11;rw[h11];have LO:=VO HB hW;have yQ:Hid (Boxed W w.heap.size k x y (ς (some ⟨ba,oa,none⟩) n C)∧Boxed W (w.heap.size+1) k' x' y' (ς (some ⟨bb,ob,none⟩) n C')):=HX.out W hW;clear hx hW h11 HX ME HC;cases sm with
     |false =>
      have HE:Hid (res=false):=by show _=_;rw[←rU.out];rfl
      go_wp2;go_ret;exact⟨by rw[HE.out];rfl,LO.out⟩
     |true =>
      have HE:Hid (same (c.drop (j+1)) (c'.drop (j+1))=res):=by show _=_;rw[←rU.out];rfl
      go_wp2
      go_roundw
      case rel=>exact⟨j+1,ω,by go_num,HE.out,LO.out,yQ.out.1,yQ.out.2⟩
      case measure=>simp[intOf];omega
   ·have hlt':¬(j:Int)<(n:Int):=ω
    have HE:Hid (res=true):=by show _=_;rw[←HR.out,F.JG _ _ (by rw[←qX.out];omega),F.JG _ _ (by rw[←BH.out];omega)];rfl
    clear hlt;exact c148
theorem ĭ(N:Nat):E4 N:=by
 induction N using Nat.strongRecOn with
 |_ N ih=>exact Quj N ih
theorem Qbr(k:Int)(x y:ByteArray)(A:Option Addr)(n C:Nat)(c:F)(m:Nat)(w:World)(hf:Fs w (Lo w.heap.size) (ς A n C) c)(EJ:1≤m)(hm2:m≤100000) :
 Calls Tryz.prog 16 #[ξ #[ι γ k,σ x,σ y,ς A n C],ι γ (m:Int)] w fun e w'=>e=ρ (ι γ ((min (c.size+1) m:Nat):Int))∧Below w.heap.size w w':=by
 have b1:=Qa w (θ #[ι γ k,σ x,σ y,ς A n C] 24);have HC:=Lib.hid (š c.size k x y A n C c m w.heap.size (w.alloc (θ #[ι γ k,σ x,σ y,ς A n C] 24)) (Nat.le_refl _) (hf.below b1 (Nat.le_refl _)) b1.size EJ hm2);have Z':=Lib.hid b1;have HL:Hid (((⟨k,x,y,c⟩::nodes c:List Nd).take m).length=min (c.size+1) m):=by show _=_;rw[List.length_take,List.length_cons,Qj,Nat.min_comm]
 generalize((⟨k,x,y,c⟩::nodes c:List Nd).take m)=T at *;generalize min (c.size+1) m=s at *;clear hf EJ hm2 b1;go_enter Tryz.func16,Tryz.ntmps16;go_wp2_with fail;refine HC.out.mono ?_;rintro e w1 ⟨⟨v1,rfl,XD⟩,hb1⟩;obtain⟨a1,c1,rfl,hc1,Nw⟩:=XD.slice;have HB:=VO Z' hb1;rw[HL.out]at hc1⊢;clear XD hb1 HC HL Nw;exact c23
theorem Qdv(k:Int)(x y:ByteArray)(c:F):L5 k x y c k x y c=true:=by
 unfold L5;rw[iY];simp
end Tree
namespace Shape
open Mem Tree
theorem Zq:(Tryz.prog.info? 3).map (fun i=>(i.zero,i.size,i.bytes))=some (some (ι γ 0),1,8):=χ
theorem Gs:(Tryz.prog.info? 32).map (fun i=>(i.zero,i.size,i.bytes))=some (some (ς none 0 0),1,24):=χ
abbrev iv(z:Int):Value:=ι γ z
abbrev nv(q:Nat):Value:=ι γ (q:Int)
def VW:List Value→List (List Nat)→List QC
 |v::vs,l::ks=>Qb 3 1 v l.length (l.map nv)::VW vs ks
 |_,_=>[]
theorem Ye:∀(vs:List Value)(ks:List (List Nat)),vs.length=ks.length→(VW vs ks).length=ks.length
 |[],[],_=>rfl
 |[],_::_,h=>by simp at h
 |_::_,[],h=>by simp at h
 |v::vs,l::ks,h=>by
  simp only[VW,List.length_cons];rw[Ye vs ks (by simpa using h)]
theorem Xg:∀{vs:List Value}{ks:List (List Nat)}{i:Nat}{v:Value}{l:List Nat},vs[i]?=some v→ks[i]?=some l→(VW vs ks)[i]?=some (Qb 3 1 v l.length (l.map nv))
 |[],_,i,_,_,h,_=>by simp at h
 |_::_,[],i,_,_,_,h=>by simp at h
 |u::vs,m::ks,0,v,l,h,h'=>by
  simp only[List.getElem?_cons_zero,Option.some.injEq]at h h';subst h;subst h';rfl
 |u::vs,m::ks,i+1,v,l,h,h'=>by
  simp only[List.getElem?_cons_succ]at h h';simpa[VW]using Xg h h'
theorem Uy:∀(vs:List Value)(ks:List (List Nat))(i:Nat)(v:Value)(l:List Nat),vs.length=ks.length→(VW vs ks).set i (Qb 3 1 v l.length (l.map nv))=VW (vs.set i v) (ks.set i l)
 |[],[],_,_,_,_=>rfl
 |[],_::_,_,_,_,h=>by simp at h
 |_::_,[],_,_,_,h=>by simp at h
 |u::vs,m::ks,0,v,l,_=>rfl
 |u::vs,m::ks,i+1,v,l,h=>by
  simp only[VW,List.set_cons_succ];rw[Uy vs ks i v l (by simpa using h)]
theorem Ĥ:∀(vs:List Value)(ks:List (List Nat))(v:Value)(l:List Nat),vs.length=ks.length→VW vs ks++[Qb 3 1 v l.length (l.map nv)]=VW (vs++[v]) (ks++[l])
 |[],[],_,_,_=>rfl
 |[],_::_,_,_,h=>by simp at h
 |_::_,[],_,_,h=>by simp at h
 |u::vs,m::ks,v,l,h=>by
  simp only[VW,List.cons_append];rw[Ĥ vs ks v l (by simpa using h)]
section
variable {W:World}{B:Nat}{R:List QC}
theorem yJ{j g n c:Nat}{nps:List (Nd×Value)}(h:QH W B R)(hj:R[j]?=some (Qb 24 4 (ς (some ⟨g,0,none⟩) n c) n (nps.flatMap VC))){i:Nat}{nd:Nd}{s:Value}(hi:nps[i]?=some (nd,s)) :
 W.cell? ⟨g,i*4,none⟩=some (ι γ nd.k)∧W.cell? ⟨g,i*4+1,none⟩=some (σ nd.x)∧W.cell? ⟨g,i*4+2,none⟩=some (σ nd.y)∧W.cell? ⟨g,i*4+3,none⟩=some s:=by
 have H:∀r u,(VC (nd,s))[r]?=some u→W.cell? ⟨g,i*4+r,none⟩=some u:=fun r u hr=>h.cell hj (Lm.Uz Vn nps i (nd,s) hi r u hr)
 exact⟨H 0 _ rfl,H 1 _ rfl,H 2 _ rfl,H 3 _ rfl⟩
theorem Zr{j g:Nat}{T:TypeId}{a b c d:Value}(h:QH W B R)(hj:R[j]?=some (Kf T g [a,b,c,d])) :
 (W.cell? ⟨g,0,none⟩=some a∧W.cell? ⟨g,1,none⟩=some b∧W.cell? ⟨g,2,none⟩=some c∧W.cell? ⟨g,3,none⟩=some d)∧W.frozen? ⟨g,0,none⟩=false∧W.frozen? ⟨g,1,none⟩=false∧W.frozen? ⟨g,2,none⟩=false∧W.frozen? ⟨g,3,none⟩=false :=
 ⟨⟨h.cell hj rfl,h.cell hj rfl,h.cell hj rfl,h.cell hj rfl⟩,h.JO hj 0,h.JO hj 1,h.JO hj 2,h.JO hj 3⟩
end
def told(K:List (List Nat))(i j q:Nat):Prop:=(∃(a:Nat)(l:List Nat),a<i∧K[a]?=some l∧q∈l)∨∃l,K[i]?=some l∧q∈l.take j
structure Q1w(P:List Int)(K:List (List Nat))(i j:Nat)(ps:List Int):Prop where
 len:ps.length=P.length
 yes:∀q,q<P.length→told K i j q→ps[q]?=P[q]?
 no:∀q,q<P.length→¬told K i j q→ps[q]?=some (-1)
theorem ĵ{w:World}{base:Nat}{e:TypeId}{size n:Nat}{v:Value}{xs:List Value}(h:w.ownsRow base e size v n xs):w.ownsRow 0 e size v n xs:=by
 refine⟨h.1,?_⟩;rcases h.2 with h' |⟨g,cap,cur,a,b,r⟩
 ·exact .inl h'
 ·exact .inr ⟨g,cap,cur,a,Nat.zero_le _,r⟩
theorem Qx8{w:World}{base:Nat}{e:TypeId}{size n:Nat}{v:Value}{xs:List Value}(h:w.ownsRow base e size v n xs):∀k,v.ownBlock=some k→base≤k:=fun k hk=>(h.lt k hk).1
theorem bI(w:World)(o1 o2:Obj):((w.alloc o1).alloc o2).heap[w.heap.size+1]?=some o2:=by
 have:=heap_alloc_new (w.alloc o1) o2;rwa[show(w.alloc o1).heap.size=w.heap.size+1 by simp]at this
theorem Qyd{nps:List (Nd×Value)}{L:List Nd}(h:nps.map (·.1)=L){i:Nat}{n:Nd}(hn:L[i]?=some n):∃s,nps[i]?=some (n,s):=by
 rw[←h,List.getElem?_map]at hn;cases hp:nps[i]? with
 |none=>rw[hp]at hn;cases hn
 |some p=>rw[hp]at hn;injection hn with hn;exact⟨p.2,by rw[←hn]⟩
theorem Em:∀(f:F)(i:Nat)(n:Nd),(nodes f)[i]? = some n→n.c.size+1≤f.size:=fun f i n h=>by
 have:=(Jv f i n h).1;omega
def M2(vS:Value)(nS:Nat)(cS:List Value)(vO:Value)(nO:Nat)(us:List Value)(K:List (List Nat)):List QC :=
 Qb 24 4 vS nS cS::Qb 32 1 vO nO us::VW us K
def ints(l:List Nat):List Int:=l.map fun(q:Nat)=>(q:Int)
def yl(T:F):List (List Int):=(Z7 0 T).map ints
def Ð(l:F):List (List Int):=(Kl [] l).map ints
def Vg(w:World)(S:Nat→Prop)(T:F)(v:Value):Prop :=
 ∃vN vP vS vK,v=ξ #[vN,vP,vS,vK]∧Fs w S vN (YG (nodes T))∧U7 w S vP ((Jn (-1) 0 T).map iv)∧U7 w S vS ((Zt T).map iv)∧Jr w S vK (yl T)
theorem Vg.keep{w w':World}{S:Nat→Prop}{T:F}{v:Value}(h:Vg w S T v)(hb:∀b,S b→w'.heap[b]?=w.heap[b]?):Vg w' S T v:=by
 obtain⟨vN,vP,vS,vK,e,h1,h2,h3,h4⟩:=h;exact⟨vN,vP,vS,vK,e,h1.keep hb,h2.keep hb,h3.keep hb,h4.keep hb⟩
theorem Vg.more{w:World}{S S':Nat→Prop}{T:F}{v:Value}(h:Vg w S T v)(hs:∀b,S b→S' b):Vg w S' T v:=by
 exact c108
theorem Qy1(W:World)(ps:List (Nd×Value))(h:∀p∈ps,Fs W (Lo W.heap.size) p.2 p.1.c)(hn:ps.length≤45000) :
 Fs (W.alloc (θ (ps.flatMap VC).toArray 24)) (Lo (W.heap.size+1)) (ς (some ⟨W.heap.size,0,none⟩) ps.length ps.length) (YG (ps.map (·.1))):=by
 have hb:=Qz W (θ (ps.flatMap VC).toArray 24);refine Yf W.heap.size (by show _<_;omega) ps 0 ps.length ps.length rfl (Nat.le_refl _) ω (fun j u hu=>?_) (fun p hp=>?_) _ (.inr rfl)
 ·rw[Nat.zero_add];exact Vk W _ _ j u hu
 ·exact((h p hp).later hb).up ψ
def Pow (w:World):Prop:=Lib.TabIs Tryz.prog w "internal/strconv.uint64pow10" .u64 Lib.pow10Tab
theorem Pow.on{w w':World}(h:Pow w)(hb:Below w.heap.size w w'):Pow w':=(Lib.tabBelow_of_tabIs h) w' hb
def Hg(k:Int):Prop:=-9223372036854775808≤k∧k≤9223372036854775807
def Vf:F→Prop
 | .nil=>True
 | .cons k x y c r=>Hg k∧Vf c∧Vf r
def Qp6:Prop:=∀(A:Option Addr)(n C:Nat)(l:F)(w:World),Pow w→Fs w (Lo w.heap.size) (ς A n C) l→l.size≤45000→Zp l→Vf l→
 Calls Tryz.prog 38 #[ς A n C] w fun e w'=>Below w.heap.size w w'∧∃v,e=ρ v∧Jr w' (In w.heap.size w'.heap.size) v (Ð l)
theorem ÿ{w:World}{B:Nat}{R:List QC}{e:TypeId}{v:Value}{us:List Value}{K:List (List Nat)}{i m:Nat}(h:QH w B R)(hi:R[i]?=some (Qb e 1 v us.length us))(hu:us.length=K.length)
 (hk:∀(j:Nat)(u:Value)(l:List Nat),us[j]?=some u→K[j]?=some l→∃q:Nat,R[q]?=some (Qb 3 1 u l.length (l.map nv))):Jr w (In B w.heap.size) v (K.map ints):=by
 refine⟨us,by rw[List.length_map,hu],h.Nb hi,fun j u l hj hl=>?_⟩;rw[List.getElem?_map]at hl;cases hK:K[j]? with
 |none=>rw[hK]at hl;cases hl
 |some m=>rw[hK]at hl;injection hl with hl;subst hl;obtain⟨q,hq⟩:=hk j u m hj hK;have:=h.Nb hq;rwa[show(ints m).map (ι γ)=m.map nv by unfold ints;rw[List.map_map];rfl]
theorem Þ{w:World}{base:Nat}{e:TypeId}{size n:Nat}{v:Value}{xs:List Value}(h:w.ownsRow 0 e size v n xs)(hb:∀k,v.ownBlock=some k→base≤k):w.ownsRow base e size v n xs:=by
 refine⟨h.1,?_⟩;rcases h.2 with h' |⟨g,cap,cur,a,b,r⟩
 ·exact .inl h'
 ·exact .inr ⟨g,cap,cur,a,hb g (by rw[a];rfl),r⟩
end Shape
end Go.Proofs.YtmepekognmlblaaGreatDoor
namespace Go.Proofs
def Tryz.PF:Go.Shelf.Ren:=⟨fun|25=>96|31=>121|32=>122|37=>137|n=>n,fun|22=>32|3=>3|4=>4|40=>148|0=>0|n=>n,fun|n=>n⟩
theorem Tryz.RA:Go.Proofs.Lays2.n25 prog Tryz.PF:={
 mixed:=by kernel_rfl
 f25:=func96.trans (congrArg some (by kernel_rfl))
 f31:=func121.trans (congrArg some (by kernel_rfl))
 f32:=func122.trans (congrArg some (by kernel_rfl))
 f37:=func137.trans (congrArg some (by kernel_rfl))
 t0:=underlying0
 a0:=Tryz.isAgg0
 z0:=Tryz.sizeOf0
 v0:=Tryz.zeroValue0
 t3:=underlying3
 a3:=Tryz.isAgg3
 z3:=Tryz.sizeOf3
 v3:=Tryz.zeroValue3
 t4:=underlying4
 a4:=Tryz.isAgg4
 z4:=Tryz.sizeOf4
 v4:=Tryz.zeroValue4
 t22:=underlying32
 a22:=Tryz.isAgg32
 z22:=Tryz.sizeOf32
 v22:=Tryz.zeroValue32
 t40:=underlying148
 a40:=Tryz.isAgg148
 z40:=Tryz.sizeOf148
 v40:=Tryz.zeroValue148 }
def Tryz.PE:Go.Shelf.Ren:=⟨fun|16=>94|n=>n,fun|3=>3|35=>70|4=>4|38=>148|n=>n,fun|n=>n⟩
theorem Tryz.MW:Go.Proofs.SlLaysO.n16 prog Tryz.PE:={
 mixed:=by kernel_rfl
 f16:=func94.trans (congrArg some (by kernel_rfl))
 t3:=underlying3
 a3:=Tryz.isAgg3
 z3:=Tryz.sizeOf3
 v3:=Tryz.zeroValue3
 t4:=underlying4
 a4:=Tryz.isAgg4
 z4:=Tryz.sizeOf4
 v4:=Tryz.zeroValue4
 t35:=underlying70
 a35:=Tryz.isAgg70
 z35:=Tryz.sizeOf70
 v35:=Tryz.zeroValue70
 t38:=underlying148
 a38:=Tryz.isAgg148
 z38:=Tryz.sizeOf148
 v38:=Tryz.zeroValue148 }
theorem Tryz.ZG(b off n c:Nat)(zs:List Int)(x:Int)(w:World)(hz:n≤zs.length)(hbig:n<4611686018427387904)(hc:∀j,j<zs.length→w.cell? ⟨b,off+j,none⟩=some (ι γ (zs.getD j 0)))(hs:(zs.take n).Pairwise (·≤·)) :
 Calls prog 96 #[ς (some ⟨b,off,none⟩) n c,ι γ x] w fun e w'=>e=ρ (.tuple #[ι γ ((zs.take n).countP (·<x):Nat),τ ((zs.take n).contains x)])∧∃q,w'=w.drewN q:=Any.slices_BinarySearch_int Tryz.RA b off n c zs x w hz hbig hc hs
theorem Tryz.ZF(a:Option Addr)(c:Nat)(x:Int)(w:World) :
 Calls prog 96 #[ς a 0 c,ι γ x] w fun e w'=>e=ρ (.tuple #[ι γ 0,τ false])∧w'=w:=Any.slices_BinarySearch_int_empty Tryz.RA a c x w
open Go.RowKit Go.Sort in
theorem Tryz.YT(g:Nat)(cb:Array Value)(n:Nat)(p:Nat→Bool)(w:World)(eg:∀args w,(callFunc g args).run prog w=.ok (.enter g args) w)(hsz:n<4611686018427387904)
 (hf:∀(m:Nat)(os:Array Obj)(i:Nat),i<n→Calls prog g (#[ι γ i]++cb) (grow (w.drewN m) os) fun e w'=>e=ρ (τ (p i))∧∃q os',w'=grow ((grow (w.drewN m) os).drewN q) os')
 (hmono:∀a b,a≤b→b<n→p a=true→p b=true) :
 Calls prog 94 #[ι γ n,.func (.func g) #[] cb] w fun e w'=>e=ρ (ι γ ((List.range n).countP (fun i=>!p i):Nat))∧∃q os,w'=grow (w.drewN q) os:=Any.sort_Search Tryz.MW g cb n p w eg hsz hf hmono
end Go.Proofs
namespace Go.Proofs.YtmepekognmlblaaGreatDoor
namespace Match
open Tree Shape
theorem Ql6(s:Sd)(p q:Nat)(h:ahead s p q=true):¬ahead s q p=true:=by
 unfold ahead at h⊢;simp only[Bool.or_eq_true,Th,decide_eq_true_eq]at h⊢;omega
theorem Qj4(s:Sd){p q:Nat}(h:p≠q)(hn:¬ahead s p q=true):ahead s q p=true:=by
 unfold ahead at hn⊢;simp only[Bool.or_eq_true,Th,decide_eq_true_eq]at hn⊢;omega
theorem Qj3(s:Sd){p q r:Nat}(h:ahead s p q=true)(h':ahead s q r=true):ahead s p r=true:=by
 unfold ahead at h h'⊢;simp only[Bool.or_eq_true,Th,decide_eq_true_eq]at h h'⊢;omega
theorem Ś(s:Sd)(p:Nat):∀l:List Nat,(U6 s p l).Perm (p::l)
 |[]=>List.Perm.refl _
 |q::r=>by
  unfold U6;split
  ·exact((Ś s p r).cons q).trans (List.Perm.swap p q r)
  ·exact List.Perm.refl _
theorem Qd7(s:Sd)(p:Nat):∀l:List Nat,p ∉ l→(l.Pairwise fun p q=>ahead s p q=true)→(U6 s p l).Pairwise fun p q=>ahead s p q=true
 |[],_,_=>List.pairwise_singleton _ _
 |q::r,hm,h=>by
  have h':=List.pairwise_cons.1 h;unfold U6;by_cases hc:ahead s q p=true
  ·rw[if_pos hc,List.pairwise_cons];refine⟨fun z hz=>?_,Qd7 s p r (fun hp=>hm (List.mem_cons_of_mem _ hp)) h'.2⟩;rcases(Ub r).1 hz with rfl|hz
   ·exact hc
   ·exact h'.1 z hz
  ·rw[if_neg hc,List.pairwise_cons];have PJ:ahead s p q=true:=Qj4 s (fun e=>hm (by rw[e];exact List.mem_cons_self ..)) hc;refine⟨fun z hz=>?_,h⟩;rcases List.mem_cons.1 hz with rfl|hz
   ·exact PJ
   ·exact Qj3 s PJ (h'.1 z hz)
theorem iK(s:Sd)(l:List Nat)(hl:l.Pairwise (·< ·)):(J7 s l).Perm l∧(J7 s l).Pairwise fun p q=>ahead s p q=true:=by
 have h:∀(l acc:List Nat),l.Pairwise (·< ·)→(∀x∈acc,∀y∈l,x<y)→(acc.Pairwise fun p q=>ahead s p q=true)→(l.foldl (fun acc p=>U6 s p acc) acc).Perm (l++acc)∧(l.foldl (fun acc p=>U6 s p acc) acc).Pairwise fun p q=>ahead s p q=true:=by
  intro l
  induction l with
  |nil=>intro acc _ _ h;exact⟨List.Perm.refl _,h⟩
  |cons p r ih =>
   intro acc hl hb h;have hl':=List.pairwise_cons.1 hl;have hp:p ∉ acc:=fun hp=>absurd (hb p hp p (List.mem_cons_self ..)) (Nat.lt_irrefl _)
   obtain⟨h1,h2⟩:=ih (U6 s p acc) hl'.2 (fun x hx y hy=>by
    rcases(Ub acc).1 hx with rfl|hx
    ·exact hl'.1 y hy
    ·exact hb x hx y (List.mem_cons_of_mem _ hy)) (Qd7 s p acc hp h)
   refine⟨?_,h2⟩;rw[List.foldl_cons];refine h1.trans ?_;exact((Ś s p acc).append_left r).trans List.perm_middle
 have:=h l [] hl (fun x hx=>by cases hx) List.Pairwise.nil;rw[List.append_nil]at this;exact this
theorem Qd9(s:Sd)(M:List Int):(Jt s M).Pairwise (·<·):=List.pairwise_lt_range.sublist List.filter_sublist
def Qzs:F→F→Bool
 | .cons k x y c _,.cons k' x' y' c' _=>L5 k x y c k' x' y' c'
 |_,_=>false
def Qzz:F→F→Bool
 | .cons rk _ _ rc _,.cons sk _ _ sc _=>rk==sk&&(rk==33||Qzs rc sc)
 |_,_=>false
def Qwq(a b:Nd):Bool :=
 a.k==b.k&&(a.k==2||((a.k==4||a.k==5||a.k==6)&&a.x.toList==b.x.toList)||(a.k==7&&(a.x.toList==b.x.toList&&Qzz a.c b.c)))
def bM(p:Nd→Bool):Int→Nat→List Nd→Int
 |at',_,[]=>at'
 |at',i,n::r=>if p n then(if 0≤at' then -1 else bM p (i:Int) (i+1) r)else bM p at' (i+1) r
def bB(l:List Nd)(x:Nd):Int:=bM (fun n=>Qwq n x) (-1) 0 l
def fc(X Y:List Nd)(ka kb:List Nat):Nat→List Nd→List P2
 |_,[]=>[]
 |i,x::r=>if 0≤bB Y x∧bB X x=(i:Int)then(((ka.getD i 0:Nat):Int),((kb.getD (bB Y x).toNat 0:Nat):Int))::fc X Y ka kb (i+1) r else fc X Y ka kb (i+1) r
def Qwx(c c':F):List P2:=fc (KH c) (KH c') (places 1 c) (places 1 c') 0 (KH c)
