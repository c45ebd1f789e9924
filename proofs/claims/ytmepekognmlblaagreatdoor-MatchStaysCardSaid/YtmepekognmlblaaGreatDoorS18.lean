import Derived.Test.YtmepekognmlblaaGreatDoorS09
import Derived.Test.YtmepekognmlblaaGreatDoorS11
set_option maxHeartbeats 4000000
set_option linter.unusedVariables false
open Go.Proofs.Tryz Go.ChangeShapes Go.WideShapes Go.ChangeAt Go.RowKit
open Go.Lib renaming hid→QA
open Go.RowKit.Below renaming refl→QE
open _root_.Nat renaming le_refl→QI
open _root_.List renaming length_take→JS
open Go.Value renaming string→σ,int→ι,slice→ς,pointer→π,bool→τ,agg→ξ
open Go.IntKind renaming i64→γ
open Go.Obj renaming cells→θ
open Go.Ending renaming returned→ρ
namespace Go.Proofs.YtmepekognmlblaaGreatDoor
namespace Lex
open Ro Lm
def vC(t:Tok):List Value:=[ι γ t.kind,σ (strOfNums t.text),ι γ (t.place:Int),τ t.first]
theorem Qqm(t:Tok):(vC t).length=4:=rfl
theorem Qql:(prog.info? 140).map (fun i=>(i.zero,i.size,i.bytes))=some (some (ξ #[ι γ 0,σ ⟨#[]⟩,ι γ 0,τ false]),4,40):=χ
def Ez(w:World)(base:Nat)(v:Value)(L:List Tok):Prop:=w.ownsRow base 140 4 v L.length (L.flatMap vC)
structure Cg(g:Nat)(A:Option Addr)(n cap:Nat)(s:St)(w:World):Prop where
 b:w.heap[g]?=some (θ #[ς A n cap] 103 (0,0))
 l:∃v,w.heap[g+1]?=some (θ #[v] 137 (0,0))∧Ez w (g+5) v s.ZH
 f:w.heap[g+2]?=some (θ #[τ s.first] 4 (0,0))
 o:w.heap[g+3]?=some (θ #[τ s.opn] 4 (0,0))
 p:w.heap[g+4]?=some (θ #[ι γ (s.Mx:Int)] 3 (0,0))
theorem fK(w:World){ops:Array Oper}{rest:List Oper}{o:Oper}{a:Act}{Q:Exit→Act→World→Prop}(hgd:o.guard=none)(s x:Operand)
 (ho:o.op=.call { callee:=.builtin .append,args:=#[s,x],argTypes:=#[137,137] }) (base:Nat) (v:Value) (L:List Tok) (t:Tok) (hs:a.eval s=v) (hown:Ez w base v L)
 (g:Nat) (hg:g=w.heap.size) (hx:a.eval x=ς (some ⟨g,0,none⟩) 1 1) (h63:L.length≤10000000) (hbase:base≤w.heap.size)
 (h:∀v' w',Ez w' base v' (L++[t])→(w.alloc (θ (vC t).toArray 140)).grownBy w' v.ownBlock→(∀B,(∀b,v.ownBlock=some b→B≤b)→B≤w.heap.size→Below B w w')→
  (v'.ownBlock=v.ownBlock∨v'.ownBlock=some (w.heap.size+1))→wpList prog ops Q rest (a.put o.dst v') w') :
 wpList prog ops Q (o::rest) a (w.alloc (θ (vC t).toArray 140)):=by
 obtain⟨i0,hi0,hz0,hz1,hz2⟩:=info_parts Qql;refine Qpy w hgd s x ho underlying137 hi0 hz0 hz1 hz2 rfl δ base v L.length _ (vC t) hs hown rfl (by intro u hu;simp[vC]at hu;rcases hu with rfl|rfl|rfl|rfl <;> rfl) g hg hx h63 ω hbase fun v' w' h1 h2 h3 h4=>?_
 exact h v' w' (by unfold Ez;rw[List.length_append,List.flatMap_append];simpa using h1) h2 h3 h4
theorem Xf{w:World}{base:Nat}{v:Value}{L:List Tok}(h:Ez w base v L):∃a cap,v=ς a L.length cap∧L.length≤cap∧cap≤maxLen:=Ť h
section
variable {g n cap:Nat}{A:Option Addr}{s:St}{w w':World}
theorem one_set{w:World}{g k:Nat}{u v:Value}{T T':TypeId}(h:w.heap[g]?=some (θ #[u] T (0,0)))(hne:g≠k)(x:Value):(w.setCell ⟨k,0,none⟩ x).heap[g]?=some (θ #[u] T (0,0)) :=
 (Below.heap_setCell w ⟨k,0,none⟩ x g hne).trans h
theorem rI{w:World}{base:Nat}{v:Value}{L:List Tok}(h:Ez w base v L){k:Nat}(hk:k<base)(x:Value):Ez (w.setCell ⟨k,0,none⟩ x) base v L:=ownsRow_setCell_below h (a:=⟨k,0,none⟩) hk x
theorem Cg.app{v v1:Value}{L:List Tok}{w1:World}(hc:Cg g A n cap s w)(hl:w.heap[g+1]?=some (θ #[v] 137 (0,0)))
 (hb:Below (g+5) w w1) (hown1:Ez w1 (g+5) v1 L):Cg g A n cap { s with ZH:=L } (w1.setCell ⟨g+1,0,none⟩ v1) where
 b:=one_set (v:=v) (T':=3) ((hb.block g ω).trans hc.b) ω _
 l:=⟨v1,one_setCell ((hb.block (g+1) ω).trans hl),rI hown1 ω _⟩
 f:=one_set (v:=v) (T':=3) ((hb.block (g+2) ω).trans hc.f) ω _
 o:=one_set (v:=v) (T':=3) ((hb.block (g+3) ω).trans hc.o) ω _
 p:=one_set (v:=v) (T':=3) ((hb.block (g+4) ω).trans hc.p) ω _
theorem Cg.Q3u(hc:Cg g A n cap s w)(x:Bool):Cg g A n cap { s with first:=x } (w.setCell ⟨g+2,0,none⟩ (τ x)) where
 b:=one_set (v:=τ x) (T':=3) hc.b ω _
 l:=by obtain⟨v,h1,h2⟩:=hc.l;exact⟨v,one_set (v:=v) (T':=3) h1 ω _,rI h2 ω _⟩
 f:=one_setCell hc.f
 o:=one_set (v:=τ x) (T':=3) hc.o ω _
 p:=one_set (v:=τ x) (T':=3) hc.p ω _
theorem Cg.Ai(hc:Cg g A n cap s w)(x:Bool):Cg g A n cap { s with opn:=x } (w.setCell ⟨g+3,0,none⟩ (τ x)) where
 b:=one_set (v:=τ x) (T':=3) hc.b ω _
 l:=by obtain⟨v,h1,h2⟩:=hc.l;exact⟨v,one_set (v:=v) (T':=3) h1 ω _,rI h2 ω _⟩
 f:=one_set (v:=τ x) (T':=3) hc.f ω _
 o:=one_setCell hc.o
 p:=one_set (v:=τ x) (T':=3) hc.p ω _
theorem Cg.tA(hc:Cg g A n cap s w)(x:Nat):Cg g A n cap { s with Mx:=x } (w.setCell ⟨g+4,0,none⟩ (ι γ (x:Int))) where
 b:=one_set (v:=τ true) (T':=3) hc.b ω _
 l:=by obtain⟨v,h1,h2⟩:=hc.l;exact⟨v,one_set (v:=v) (T':=3) h1 ω _,rI h2 ω _⟩
 f:=one_set (v:=τ true) (T':=3) hc.f ω _
 o:=one_set (v:=τ true) (T':=3) hc.o ω _
 p:=one_setCell hc.p
theorem Cg.below(hc:Cg g A n cap s w)(hb:Below w.heap.size w w'):Cg g A n cap s w' where
 b:=(hb.block g (lt_of_block hc.b)).trans hc.b
 l:=by obtain⟨v,h1,h2⟩:=hc.l;exact⟨v,(hb.block _ (lt_of_block h1)).trans h1,YW h2 hb (QI _)⟩
 f:=(hb.block _ (lt_of_block hc.f)).trans hc.f
 o:=(hb.block _ (lt_of_block hc.o)).trans hc.o
 p:=(hb.block _ (lt_of_block hc.p)).trans hc.p
theorem Cg.size(hc:Cg g A n cap s w):g+5≤w.heap.size:=lt_of_block hc.p
end
def K2(g:Nat)(A:Option Addr)(n cap:Nat)(s:St)(w:World)(e:Ending)(w':World):Prop:=e=ρ (.tuple #[])∧Cg g A n cap s w'∧Below g w w'
def Up(g:Nat)(k:Int)(a b:Nat):Array Value:=#[ι γ k,ι γ (a:Int),ι γ (b:Int),π (some ⟨g+3,0,none⟩),π (some ⟨g+1,0,none⟩),π (some ⟨g+4,0,none⟩),π (some ⟨g+2,0,none⟩),π (some ⟨g,0,none⟩)]
theorem iH(g:Nat)(A:Option Addr)(n cap:Nat)(s:St)(k:Int)(a b:Nat)(w:World)(hc:Cg g A n cap s w)(hk:(k=8∧s.opn=false)∨k=7)(t:List Int) :
 Calls prog 143 (Up g k a b) w (K2 g A n cap (keep s k t a) w):=by
 have ho:=cell_of_one hc.o;have hf:=cell_of_one hc.f;have xw:=free_of_one hc.f;unfold Up;rcases hk with⟨rfl,h1⟩|rfl
 ·have hfin:Hid (K2 g A n cap (keep s 8 t a) w (ρ (.tuple #[])) (w.setCell ⟨g+2,0,none⟩ (τ true))):=⟨rfl,by
   have:=hc.Q3u true;simpa[keep,h1]using this,(QE _ _).setCell (p:=⟨g+2,0,none⟩) (by show g≤g+2;omega) _⟩
  rw[h1]at ho;clear hc h1;go_enter func143,ntmps143;go_wp2
  go_end0
  exact hfin.out
 ·have hfin:Hid (K2 g A n cap (keep s 7 t a) w (ρ (.tuple #[])) w):=⟨rfl,by
   have:keep s 7 t a=s:=by simp[keep]
   rw[this];exact hc,QE _ _⟩
  obtain⟨o,zS⟩:∃o,s.opn=o:=⟨_,rfl⟩;rw[zS]at ho;clear hc zS hf xw;cases o
  all_goals
   go_enter func143,ntmps143;go_wp2
   go_end0
   exact hfin.out
theorem Qxv{s:St}{k:Int}{t:List Int}{a:Nat}:(keep s k t a).ZH.length≤s.ZH.length+2:=by
 unfold keep Xj;split <;> (repeat' split) <;> simp
theorem þ(g:Nat)(A:Option Addr)(n cap:Nat)(s:St)(a b:Nat)(w:World)(hc:Cg g A n cap s w)(ho:s.opn=true)(hl:s.ZH.length≤3000000)(t:List Int) :
 Calls prog 143 (Up g 8 a b) w (K2 g A n cap (keep s 8 t a) w):=by
 obtain⟨v,hv,hown⟩:=hc.l;have hsz:=hc.size;have xH:=cell_of_one hc.o;have hfo:=free_of_one hc.o;have cI:=cell_of_one hc.f;have xw:=free_of_one hc.f;have hcl:=cell_of_one hv;have FJ:=cell_of_one hc.p;rw[ho]at xH;have HC:=QA hc;have HV:=QA hv;have HO:=QA hown;have Ho:=QA ho;clear hc hv hown ho;unfold Up;go_enter func143,ntmps143;go_wp2_with (at_builtin;refine fK _ rfl _ _ rfl (g+5) v s.ZH ⟨6,[],s.Mx,false⟩ rfl HO.out w.heap.size rfl rfl ?c1 hsz ?_)
 case c1=>omega
 intro v1 w1 hown1 hgr ZX hat;have hb:=ZX (g+5) (fun k hk=>(HO.out.lt k hk).1) hsz;have Pc:keep s 8 t a=⟨s.ZH++[⟨6,[],s.Mx,false⟩],true,false,s.Mx⟩:=by simp[keep,Xj,Ho.out]
 have hfin:Hid (K2 g A n cap (keep s 8 t a) w (ρ (.tuple #[])) (((w1.setCell ⟨g+1,0,none⟩ v1).setCell ⟨g+3,0,none⟩ (τ false)).setCell ⟨g+2,0,none⟩ (τ true))):=⟨rfl,by rw[Pc];exact((HC.out.app HV.out hb hown1).Ai false).Q3u true,(((hb.mono ω).setCell (p:=⟨g+1,0,none⟩) (by show g≤g+1;omega) _).setCell (p:=⟨g+3,0,none⟩) (by show g≤g+3;omega) _).setCell (p:=⟨g+2,0,none⟩) (by show g≤g+2;omega) _⟩
 have h1:w1.heap[g+1]?=some (θ #[v] 137 (0,0)):=(hb.block (g+1) ω).trans HV.out;have h2:w1.heap[g+2]?=some (θ #[τ s.first] 4 (0,0)):=(hb.block (g+2) ω).trans HC.out.f;have h3:w1.heap[g+3]?=some (θ #[τ s.opn] 4 (0,0)):=(hb.block (g+3) ω).trans HC.out.o;have c1:=cell_of_one h1;have f1:=free_of_one h1;have c2:=cell_of_one h2;have f2:=free_of_one h2;have c3:=cell_of_one h3;have f3:=free_of_one h3;obtain⟨a1,q1,rfl,_,_⟩:=Xf hown1;clear Pc hgr ZX hat hb h1 h2 h3 hown1 xH hfo cI xw hcl FJ;generalize(s.ZH++[(⟨6,[],s.Mx,false⟩:Tok)]).length=N at *;go_wp2
 go_end0
 exact hfin.out
theorem Ql1{w:World}{B b0 off n cap a m:Nat}{xs:List Int}(h:RB w B (some ⟨b0,off,none⟩) xs)(hn:xs.length=n)(vg:a+m≤n) :
 (convert 103 9 (ς (some ⟨b0,off+a,none⟩) m (cap-a))).run prog w=.ok (σ (strOfNums ((xs.drop a).take m))) w:=by
 have h2:RB w B (some ⟨b0,off+a,none⟩) ((xs.drop a).take m):=⟨(h.1.drop a).take m,by
  rcases h.2 with e|⟨b,o,e,hb,hc⟩
  ·left;rw[e];simp
  ·obtain⟨rfl,rfl⟩:b0=b∧off=o:=by simpa using e
   refine .inr ⟨b0,off+a,rfl,hb,fun i hi=>?_⟩;rw[JS,List.length_drop]at hi;rw[Nat.add_assoc,hc (a+i) ω,getD_take ω,getD_drop]⟩
 have:=Qrp (P:=prog) w 103 9 5 underlying103 underlying5 underlying9 h2 (cap-a);rw[JS,List.length_drop,show min m (xs.length-a)=m from by omega]at this;exact this
theorem four{w:World}{N:Nat}{T:TypeId}{a b c d:Value}(h:w.heap[N]?=some (θ #[a,b,c,d] T (0,0))) :
 w.cell? ⟨N,0,none⟩=some a∧w.cell? ⟨N,1,none⟩=some b∧w.cell? ⟨N,2,none⟩=some c∧w.cell? ⟨N,3,none⟩=some d:=by
 simp[World.cell?,h]
theorem Quq(g b0 off n cap:Nat)(s0:St)(k:Int)(a b m:Nat)(xs:List Int)(W0 eH:World)(h00:Below g eH W0)(hb':b=a+m)(hc:Cg g (some ⟨b0,off,none⟩) n cap s0 W0)(LA:RB W0 g (some ⟨b0,off,none⟩) xs)(hn:xs.length=n)(Od:n≤cap)(Du:cap≤maxLen)(hm:0<m)(lu:b≤n)(hsm:n≤1000000)
 (PK:k≠8) (lG:k≠7) (hl:s0.ZH.length≤3000000) :
 Calls prog 143 (Up g k a b) W0 (K2 g (some ⟨b0,off,none⟩) n cap (keep s0 k ((xs.drop a).take m) a) eH):=by
 have Ps:Hid (∀W,Below g W0 W→(convert 103 9 (ς (some ⟨b0,off+a,none⟩) m (cap-a))).run prog W=.ok (σ (strOfNums ((xs.drop a).take m))) W):=fun W hW=>Ql1 (LA.below hW (QI _)) hn ω
 have b8:=Zc PK;have b7:=Zc lG;have hlen:((xs.drop a).take m).length=m:=by rw[JS,List.length_drop];omega
 have Ml:KC ((xs.drop a).take m):=(LA.Bu.drop a).take m;generalize(xs.drop a).take m=t at *;obtain⟨K,hK⟩:∃K,keep s0 k t a=K:=⟨_,rfl⟩
 have hk1:¬(s0.opn=true∧k=5)→K=⟨s0.ZH++[⟨k,t,a,s0.first⟩],false,closes k t,b⟩:=fun ho=>by
  have:¬(s0.opn=true∧(k=8∨k=5)):=fun⟨h1,h2⟩=>ho ⟨h1,h2.resolve_left PK⟩
  rw[←hK];simp only[keep,if_neg this,if_neg PK,if_neg lG,hlen,hb']
 have hk2:(s0.opn=true∧k=5)→K=⟨(Xj s0).ZH++[⟨k,t,a,(Xj s0).first⟩],false,closes k t,b⟩:=fun ho=>by
  have:s0.opn=true∧(k=8∨k=5):=⟨ho.1,.inr ho.2⟩;rw[←hK];simp only[keep,if_pos this,if_neg PK,if_neg lG,hlen,hb']
 rw[hK];have hab:b-a=m:=ω
 have Q2s:(a:Int)≤b:=ω
 have Q2r:(b:Int)≤cap:=ω
 have hne:¬cap=a:=ω
 have HEN:=QA (fun(f:Bool)(w:World)=>Qpk k t Ml (a:Int) f w);have Sl:=QA hk1;have SF:=QA hk2;have jq:=QA hab;clear hK hk1 hk2 LA hn Ml hb' PK lG hlen;unfold maxLen at Du;have hsz:=hc.size;have xH:=cell_of_one hc.o;have hfo:=free_of_one hc.o;have FJ:=cell_of_one hc.p;have hg0:∃o,s0.opn=o:=⟨_,rfl⟩;obtain⟨o,zS⟩:=hg0;rw[zS]at xH Sl SF;have oD:=QA zS;have eD:=QA h00;clear zS h00;have xM:o=false∨(o=true∧(k==5)=false∧k≠5)∨(o=true∧(k==5)=true∧k=5):=by
  cases o
  ·exact .inl rfl
  ·by_cases h:k=5
   ·exact .inr (.inr ⟨rfl,by rw[h];rfl,h⟩)
   ·exact .inr (.inl ⟨rfl,Zc h,h⟩)
 unfold Up;rcases xM with rfl|⟨rfl,b5,Oh⟩|⟨rfl,b5,Oh⟩
 case' inl=>have HK:=QA (Sl.out ψ);have HC:=QA hc;clear Sl SF hfo FJ hc oD;go_enter func143,ntmps143;go_wp2
 case' inr.inl=>have HK:=QA (Sl.out (fun h=>Oh h.2));have HC:=QA hc;clear Sl SF hfo FJ hc Oh oD;go_enter func143,ntmps143;go_wp2
 case' inr.inr =>
  have HK:=QA (SF.out ⟨rfl,Oh⟩);obtain⟨v,hv,hown⟩:=hc.l;have hcl:=cell_of_one hv;have HC:=QA hc;have HV:=QA hv;have HO:=QA hown;clear hc hv hown Sl SF Oh;go_enter func143,ntmps143;go_wp2_with (at_builtin;refine fK _ rfl _ _ rfl (g+5) v s0.ZH ⟨6,[],s0.Mx,false⟩ rfl HO.out W0.heap.size rfl rfl ?c1 hsz ?_)
  case c1=>omega
  intro v1 w1 hown1 hgr ZX hat;have hb:=ZX (g+5) (fun k hk=>(HO.out.lt k hk).1) hsz;have hbg:Below g W0 ((w1.setCell ⟨g+1,0,none⟩ v1).setCell ⟨g+3,0,none⟩ (τ false)):=((hb.mono ω).setCell (p:=⟨g+1,0,none⟩) (by show g≤g+1;omega) _).setCell (p:=⟨g+3,0,none⟩) (by show g≤g+3;omega) _;have W6:Cg g (some ⟨b0,off,none⟩) n cap (Xj s0) ((w1.setCell ⟨g+1,0,none⟩ v1).setCell ⟨g+3,0,none⟩ (τ false)):=(HC.out.app HV.out hb hown1).Ai false;have Bi:Hid (∀W,Below g ((w1.setCell ⟨g+1,0,none⟩ v1).setCell ⟨g+3,0,none⟩ (τ false)) W→(convert 103 9 (ς (some ⟨b0,off+a,none⟩) m (cap-a))).run prog W=.ok (σ (strOfNums t)) W):=fun W hW=>Ps.out W (hbg.trans hW)
  have eA:=QA (eD.out.trans hbg);have hl2:(Xj s0).ZH.length≤3000001:=by simp[Xj];omega
  have h1:w1.heap[g+1]?=some (θ #[v] 137 (0,0)):=(hb.block (g+1) ω).trans HV.out;have h3:w1.heap[g+3]?=some (θ #[τ s0.opn] 4 (0,0)):=(hb.block (g+3) ω).trans HC.out.o;have c1:=cell_of_one h1;have f1:=free_of_one h1;have c3:=cell_of_one h3;have f3:=free_of_one h3;obtain⟨a1,q1,rfl,_,_⟩:=Xf hown1;have zw:=QA W6;clear HC HV HO Ps eD hgr ZX hat hb h1 h3 hown1 xH hfo hcl FJ hbg W6 oD hsz hl;generalize(s0.ZH++[(⟨6,[],s0.Mx,false⟩:Tok)]).length=N at *;go_wp2;generalize((w1.setCell ⟨g+1,0,none⟩ (ς a1 N q1)).setCell ⟨g+3,0,none⟩ (τ false))=W0 at *;generalize Xj s0=s0 at *;clear c1 f1 c3 f3;have HC:=zw;have Ps:=Bi;have eD:=eA;clear zw Bi eA;have hsz:=HC.out.size;have hl:=hl2
 all_goals
  have lC:s0.ZH.length≤3000001:=ω
  have cI:=cell_of_one HC.out.f;have hcb:=cell_of_one HC.out.b;have l0:g<W0.heap.size:=ω
  have l2:g+2<W0.heap.size:=ω
  have WI:∀o,(convert 103 9 (ς (some ⟨b0,off+a,none⟩) m (cap-a))).run prog (W0.alloc o).drew=.ok (σ (strOfNums t)) (W0.alloc o).drew:=fun o=>Ps.out _ (below_drewN ((QE g W0).alloc ω o) 1)
  have WJ:(convert 103 9 (ς (some ⟨b0,off+a,none⟩) m (cap-a))).run prog W0.drew=.ok (σ (strOfNums t)) W0.drew:=Ps.out _ (below_drewN (QE g W0) 1);have hab:=jq.out
  go_region
 all_goals
  have WY:Below W0.heap.size W0 (W0.alloc (θ #[ι γ k,σ (strOfNums t),ι γ (a:Int),τ s0.first] 140)).drew:=below_drewN ((QE _ _).alloc (QI _) _) 1;have hnew:(W0.alloc (θ #[ι γ k,σ (strOfNums t),ι γ (a:Int),τ s0.first] 140)).drew.heap[W0.heap.size]?=some (θ #[ι γ k,σ (strOfNums t),ι γ (a:Int),τ s0.first] 140 (0,0)):=heap_alloc_new W0 _;generalize(W0.alloc (θ #[ι γ k,σ (strOfNums t),ι γ (a:Int),τ s0.first] 140)).drew=W at *;have EL:=HC.out.below WY;obtain⟨v,hv0,hown0⟩:=HC.out.l;have lf:=(WY.block _ (lt_of_block hv0)).trans hv0;have B6:Ez W (g+5) v s0.ZH:=YW hown0 WY (QI _);have HVN:Hid (∀q,v.ownBlock=some q→q<W0.heap.size):=fun q hq=>(hown0.lt q hq).2
  have YR:=QA (eD.out.trans (WY.mono (show g≤W0.heap.size by omega)));have Q18:=WY.size;have DY:=QA hnew;have h4:=four hnew;clear WJ WI hcb cI hv0 hown0 HC WY hnew eD Ps hab l0 l2;generalize W0.heap.size=N at *;have clW:=cell_of_one lf;have flW:=free_of_one lf;obtain⟨d0,d1,d2,d3⟩:=h4;have D6:=EL.size;have hl4:s0.ZH.length≤10000000:=ω
  have HC:=QA EL;have HV:=QA lf;have HO:=QA B6;clear EL lf B6;go_wp2_with (at_builtin;refine fK _ rfl _ _ rfl (g+5) v s0.ZH ⟨k,t,a,s0.first⟩ rfl HO.out W.heap.size rfl rfl hl4 D6 ?_);intro v1 w1 hown1 hgr ZX hat;have hb:=ZX (g+5) (fun q hq=>(HO.out.lt q hq).1) D6;have hNW:N<W.heap.size:=lt_of_block DY.out;have FP:w1.heap[N]?=some (θ #[ι γ k,σ (strOfNums t),ι γ (a:Int),τ s0.first] 140 (0,0)) :=
   (hgr.block N (by simp;omega) (fun e=>by have:=HVN.out N e.symm;omega)).trans ((Below.heap_alloc W _ N hNW).trans DY.out)
  have lU:=HC.out.app HV.out hb hown1;have hbg:Below g eH (w1.setCell ⟨g+1,0,none⟩ v1):=(YR.out.trans (hb.mono ω)).setCell (p:=⟨g+1,0,none⟩) (by show g≤g+1;omega) _;have h4:(w1.setCell ⟨g+1,0,none⟩ v1).heap[N]?=some (θ #[ι γ k,σ (strOfNums t),ι γ (a:Int),τ s0.first] 140 (0,0)):=(Below.heap_setCell w1 ⟨g+1,0,none⟩ v1 N (by show N≠g+1;omega)).trans FP;obtain⟨e0,e1,e2,e3⟩:=four h4;have h1:w1.heap[g+1]?=some (θ #[v] 137 (0,0)):=(hb.block (g+1) ω).trans HV.out;have c1:=cell_of_one h1;have f1:=free_of_one h1;have lT:=lU.below ((QE _ _).alloc (QI _) (θ #[ι γ k,σ (strOfNums t),ι γ (a:Int),τ s0.first] 140));have s2:=lT.f;have s3:=lT.o;have s4:=lT.p;have c2:=cell_of_one s2;have f2:=free_of_one s2;have c3:=cell_of_one s3;have f3:=free_of_one s3;have c4:=cell_of_one s4;have f4:=free_of_one s4;have hs1:=lU.size;have Sq:=QA (HEN.out s0.first (w1.setCell ⟨g+1,0,none⟩ v1));have hfin:Hid (K2 g (some ⟨b0,off,none⟩) n cap K eH (ρ (.tuple #[])) (((((w1.setCell ⟨g+1,0,none⟩ v1).alloc (θ #[ι γ k,σ (strOfNums t),ι γ (a:Int),τ s0.first] 140)).setCell ⟨g+2,0,none⟩ (τ false)).setCell ⟨g+3,0,none⟩ (τ (closes k t))).setCell ⟨g+4,0,none⟩ (ι γ (b:Int)))):=⟨rfl,by
   rw[HK.out];exact(((lU.below ((QE _ _).alloc (QI _) _)).Q3u false).Ai (closes k t)).tA b,
   (((hbg.alloc ω _).setCell (p:=⟨g+2,0,none⟩) (by show g≤g+2;omega) _).setCell (p:=⟨g+3,0,none⟩) (by show g≤g+3;omega) _).setCell (p:=⟨g+4,0,none⟩) (by show g≤g+4;omega) _⟩
  obtain⟨a1,q1,rfl,_,_⟩:=Xf hown1;clear hs1 hgr ZX hat hb FP lU lT hbg h4 h1 s2 s3 s4 hown1 clW flW DY HV HO HC YR HVN HEN HK jq d0 d1 d2 d3;generalize(s0.ZH++[(⟨k,t,a,s0.first⟩:Tok)]).length=M at *;generalize closes k t=cl at *;go_wp2_with fail;generalize(w1.setCell ⟨g+1,0,none⟩ (ς a1 M q1))=W2 at *;refine Sq.out.mono ?_;rintro e w' ⟨rfl,rfl⟩;generalize W2.alloc (θ #[ι γ k,σ (strOfNums t),ι γ (a:Int),τ s0.first] 140)=W3 at *;go_wp2
  go_end0
  exact hfin.out
