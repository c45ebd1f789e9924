import Derived.Test.YtaiihnniblibaaaGreatDoorG23
set_option maxHeartbeats 4000000
set_option linter.unusedVariables false
open Go.Proofs.Tryz Go.ChangeShapes Go.WideShapes Go.ChangeAt Go.RowKit
open Go.Lib renaming hid→QA
open Go.RowKit.Below renaming refl→QF
open _root_.Nat renaming le_refl→QH,zero_add→JN
open Go.Value renaming string→σ,int→ι,slice→ς,pointer→π,bool→τ,agg→ξ
open Go.IntKind renaming i64→κ
open Go.Obj renaming cells→θ
open Go.Ending renaming returned→ρ
namespace Go.Proofs.YtaiihnniblibaaaGreatDoor
namespace Lex
open KL ZR
def Ye(t:Tok):List Value:=[ι κ t.kind,σ (strOfNums t.text),ι κ (t.place:Int),τ t.first]
theorem xM(t:Tok):(Ye t).length=4:=rfl
theorem Qsm:(prog.info? 75).map (fun i=>(i.zero,i.size,i.bytes))=some (some (ξ #[ι κ 0,σ ⟨#[]⟩,ι κ 0,τ false]),4,40):=by kernel_rfl
def Py(w:World)(base:Nat)(v:Value)(L:List Tok):Prop:=w.ownsRow base 75 4 v L.length (L.flatMap Ye)
structure Cg(g:Nat)(A:Option Addr)(n cap:Nat)(s:St)(w:World):Prop where
 b:w.heap[g]?=some (θ #[ς A n cap] 30 (0,0))
 l:∃v,w.heap[g+1]?=some (θ #[v] 38 (0,0))∧Py w (g+5) v s.ZQ
 f:w.heap[g+2]?=some (θ #[τ s.first] 4 (0,0))
 o:w.heap[g+3]?=some (θ #[τ s.opn] 4 (0,0))
 p:w.heap[g+4]?=some (θ #[ι κ (s.SX:Int)] 3 (0,0))
theorem kF(w:World){ops:Array Oper}{rest:List Oper}{o:Oper}{a:Act}{Q:Exit→Act→World→Prop}(hgd:o.guard=none)(s x:Operand)
  (ho:o.op=.call { callee:=.builtin .append,args:=#[s,x],argTypes:=#[38,38] }) (base:Nat) (v:Value) (L:List Tok) (t:Tok) (hs:a.eval s=v) (hown:Py w base v L)
  (g:Nat) (hg:g=w.heap.size) (hx:a.eval x=ς (some ⟨g,0,none⟩) 1 1) (h63:L.length≤10000000) (hbase:base≤w.heap.size)
  (h:∀v' w',Py w' base v' (L++[t])→(w.alloc (θ (Ye t).toArray 75)).grownBy w' v.ownBlock→(∀B,(∀b,v.ownBlock=some b→B≤b)→B≤w.heap.size→Below B w w')→
   (v'.ownBlock=v.ownBlock∨v'.ownBlock=some (w.heap.size+1))→wpList prog ops Q rest (a.put o.dst v') w') :
  wpList prog ops Q (o::rest) a (w.alloc (θ (Ye t).toArray 75)):=by
 obtain⟨i0,hi0,hz0,hz1,hz2⟩:=info_parts Qsm;refine zD w hgd s x ho underlying38 hi0 hz0 hz1 hz2 rfl (by decide) base v L.length _ (Ye t) hs hown rfl (by intro u hu;simp[Ye]at hu;rcases hu with rfl|rfl|rfl|rfl <;> rfl) g hg hx h63 (by omega) hbase fun v' w' h1 h2 h3 h4=>?_
 exact h v' w' (by unfold Py;rw[List.length_append,List.flatMap_append];simpa using h1) h2 h3 h4
theorem Gw{w:World}{base:Nat}{v:Value}{L:List Tok}(h:Py w base v L):∃a cap,v=ς a L.length cap∧L.length≤cap∧cap≤maxLen:=zx h
section
variable {g n cap:Nat}{A:Option Addr}{s:St}{w w':World}
theorem one_set{w:World}{g k:Nat}{u v:Value}{T T':TypeId}(h:w.heap[g]?=some (θ #[u] T (0,0)))(hne:g≠k)(x:Value):(w.setCell ⟨k,0,none⟩ x).heap[g]?=some (θ #[u] T (0,0)) :=
 (Below.heap_setCell w ⟨k,0,none⟩ x g hne).trans h
theorem zg{w:World}{base:Nat}{v:Value}{L:List Tok}(h:Py w base v L){k:Nat}(hk:k<base)(x:Value):Py (w.setCell ⟨k,0,none⟩ x) base v L:=ownsRow_setCell_below h (a:=⟨k,0,none⟩) hk x
theorem Cg.app{v v1:Value}{L:List Tok}{w1:World}(hc:Cg g A n cap s w)(hl:w.heap[g+1]?=some (θ #[v] 38 (0,0)))
  (hb:Below (g+5) w w1) (hown1:Py w1 (g+5) v1 L):Cg g A n cap { s with ZQ:=L } (w1.setCell ⟨g+1,0,none⟩ v1) where
 b:=one_set (v:=v) (T':=3) ((hb.block g (by omega)).trans hc.b) (by omega) _
 l:=⟨v1,one_setCell ((hb.block (g+1) (by omega)).trans hl),zg hown1 (by omega) _⟩
 f:=one_set (v:=v) (T':=3) ((hb.block (g+2) (by omega)).trans hc.f) (by omega) _
 o:=one_set (v:=v) (T':=3) ((hb.block (g+3) (by omega)).trans hc.o) (by omega) _
 p:=one_set (v:=v) (T':=3) ((hb.block (g+4) (by omega)).trans hc.p) (by omega) _
theorem Cg.Dc(hc:Cg g A n cap s w)(x:Bool):Cg g A n cap { s with first:=x } (w.setCell ⟨g+2,0,none⟩ (τ x)) where
 b:=one_set (v:=τ x) (T':=3) hc.b (by omega) _
 l:=by obtain⟨v,h1,h2⟩:=hc.l;exact⟨v,one_set (v:=v) (T':=3) h1 (by omega) _,zg h2 (by omega) _⟩
 f:=one_setCell hc.f
 o:=one_set (v:=τ x) (T':=3) hc.o (by omega) _
 p:=one_set (v:=τ x) (T':=3) hc.p (by omega) _
theorem Cg.Db(hc:Cg g A n cap s w)(x:Bool):Cg g A n cap { s with opn:=x } (w.setCell ⟨g+3,0,none⟩ (τ x)) where
 b:=one_set (v:=τ x) (T':=3) hc.b (by omega) _
 l:=by obtain⟨v,h1,h2⟩:=hc.l;exact⟨v,one_set (v:=v) (T':=3) h1 (by omega) _,zg h2 (by omega) _⟩
 f:=one_set (v:=τ x) (T':=3) hc.f (by omega) _
 o:=one_setCell hc.o
 p:=one_set (v:=τ x) (T':=3) hc.p (by omega) _
theorem Cg.zZ(hc:Cg g A n cap s w)(x:Nat):Cg g A n cap { s with SX:=x } (w.setCell ⟨g+4,0,none⟩ (ι κ (x:Int))) where
 b:=one_set (v:=τ true) (T':=3) hc.b (by omega) _
 l:=by obtain⟨v,h1,h2⟩:=hc.l;exact⟨v,one_set (v:=v) (T':=3) h1 (by omega) _,zg h2 (by omega) _⟩
 f:=one_set (v:=τ true) (T':=3) hc.f (by omega) _
 o:=one_set (v:=τ true) (T':=3) hc.o (by omega) _
 p:=one_setCell hc.p
theorem Cg.below(hc:Cg g A n cap s w)(hb:Below w.heap.size w w'):Cg g A n cap s w' where
 b:=(hb.block g (lt_of_block hc.b)).trans hc.b
 l:=by obtain⟨v,h1,h2⟩:=hc.l;exact⟨v,(hb.block _ (lt_of_block h1)).trans h1,KR h2 hb (QH _)⟩
 f:=(hb.block _ (lt_of_block hc.f)).trans hc.f
 o:=(hb.block _ (lt_of_block hc.o)).trans hc.o
 p:=(hb.block _ (lt_of_block hc.p)).trans hc.p
theorem Cg.size(hc:Cg g A n cap s w):g+5≤w.heap.size:=lt_of_block hc.p
end
def Gc(g:Nat)(A:Option Addr)(n cap:Nat)(s:St)(w:World)(e:Ending)(w':World):Prop:=e=ρ (.tuple #[])∧Cg g A n cap s w'∧Below g w w'
def FF(g:Nat)(k:Int)(a b:Nat):Array Value:=#[ι κ k,ι κ (a:Int),ι κ (b:Int),π (some ⟨g+3,0,none⟩),π (some ⟨g+1,0,none⟩),π (some ⟨g+4,0,none⟩),π (some ⟨g+2,0,none⟩),π (some ⟨g,0,none⟩)]
theorem xK(g:Nat)(A:Option Addr)(n cap:Nat)(s:St)(k:Int)(a b:Nat)(w:World)(hc:Cg g A n cap s w)(hk:(k=8∧s.opn=false)∨k=7)(t:List Int) :
  Calls prog 41 (FF g k a b) w (Gc g A n cap (keep s k t a) w):=by
 have ho:=cell_of_one hc.o;have hf:=cell_of_one hc.f;have MR:=free_of_one hc.f;unfold FF;rcases hk with⟨rfl,h1⟩|rfl
 ·have hfin:Hid (Gc g A n cap (keep s 8 t a) w (ρ (.tuple #[])) (w.setCell ⟨g+2,0,none⟩ (τ true))):=⟨rfl,by
   have:=hc.Dc true;simpa[keep,h1]using this,(QF _ _).setCell (p:=⟨g+2,0,none⟩) (by show g≤g+2;omega) _⟩
  rw[h1]at ho;clear hc h1;go_enter func41,ntmps41;go_wp2
  go_end0
  exact hfin.out
 ·have hfin:Hid (Gc g A n cap (keep s 7 t a) w (ρ (.tuple #[])) w):=⟨rfl,by
   have:keep s 7 t a=s:=by simp[keep]
   rw[this];exact hc,QF _ _⟩
  obtain⟨o,BP⟩:=Mem.ZB (s.opn);rw[BP]at ho;clear hc BP hf MR;cases o
  all_goals
   go_enter func41,ntmps41;go_wp2
   go_end0
   exact hfin.out
theorem Q00{s:St}{k:Int}{t:List Int}{a:Nat}:(keep s k t a).ZQ.length≤s.ZQ.length+2:=by
 unfold keep Ea;split <;> (repeat' split) <;> simp
theorem pT(g:Nat)(A:Option Addr)(n cap:Nat)(s:St)(a b:Nat)(w:World)(hc:Cg g A n cap s w)(ho:s.opn=true)(hl:s.ZQ.length≤3000000)(t:List Int) :
  Calls prog 41 (FF g 8 a b) w (Gc g A n cap (keep s 8 t a) w):=by
 obtain⟨v,hv,hown⟩:=hc.l;have hsz:=hc.size;have Ot:=cell_of_one hc.o;have hfo:=free_of_one hc.o;have jf:=cell_of_one hc.f;have MR:=free_of_one hc.f;have hcl:=cell_of_one hv;have LZ:=cell_of_one hc.p;rw[ho]at Ot;have HC:=QA hc;have HV:=QA hv;have HO:=QA hown;have Ho:=QA ho;clear hc hv hown ho;unfold FF;go_enter func41,ntmps41;go_wp2_with (at_builtin;refine kF _ rfl _ _ rfl (g+5) v s.ZQ ⟨6,[],s.SX,false⟩ rfl HO.out w.heap.size rfl rfl ?c1 hsz ?_)
 case c1=>omega
 intro v1 w1 hown1 hgr ZU hat;have hb:=ZU (g+5) (fun k hk=>(HO.out.lt k hk).1) hsz;have Hi:keep s 8 t a=⟨s.ZQ++[⟨6,[],s.SX,false⟩],true,false,s.SX⟩:=by simp[keep,Ea,Ho.out]
 have hfin:Hid (Gc g A n cap (keep s 8 t a) w (ρ (.tuple #[])) (((w1.setCell ⟨g+1,0,none⟩ v1).setCell ⟨g+3,0,none⟩ (τ false)).setCell ⟨g+2,0,none⟩ (τ true))):=⟨rfl,by rw[Hi];exact((HC.out.app HV.out hb hown1).Db false).Dc true,(((hb.mono (by omega)).setCell (p:=⟨g+1,0,none⟩) (by show g≤g+1;omega) _).setCell (p:=⟨g+3,0,none⟩) (by show g≤g+3;omega) _).setCell (p:=⟨g+2,0,none⟩) (by show g≤g+2;omega) _⟩
 have h1:w1.heap[g+1]?=some (θ #[v] 38 (0,0)):=(hb.block (g+1) (by omega)).trans HV.out;have h2:w1.heap[g+2]?=some (θ #[τ s.first] 4 (0,0)):=(hb.block (g+2) (by omega)).trans HC.out.f;have h3:w1.heap[g+3]?=some (θ #[τ s.opn] 4 (0,0)):=(hb.block (g+3) (by omega)).trans HC.out.o;have c1:=cell_of_one h1;have f1:=free_of_one h1;have c2:=cell_of_one h2;have f2:=free_of_one h2;have c3:=cell_of_one h3;have f3:=free_of_one h3;obtain⟨a1,q1,rfl,_,_⟩:=Gw hown1;clear Hi hgr ZU hat hb h1 h2 h3 hown1 Ot hfo jf MR hcl LZ;generalize(s.ZQ++[(⟨6,[],s.SX,false⟩:Tok)]).length=N at *;go_wp2
 go_end0
 exact hfin.out
theorem Qnr{w:World}{B b0 off n cap a m:Nat}{xs:List Int}(h:RB w B (some ⟨b0,off,none⟩) xs)(hn:xs.length=n)(ham:a+m≤n) :
  (convert 30 9 (ς (some ⟨b0,off+a,none⟩) m (cap-a))).run prog w=.ok (σ (strOfNums ((xs.drop a).take m))) w:=by
 have h2:RB w B (some ⟨b0,off+a,none⟩) ((xs.drop a).take m):=⟨(h.1.drop a).take m,by
  rcases h.2 with e|⟨b,o,e,hb,hc⟩
  ·left;rw[e];simp
  ·obtain⟨rfl,rfl⟩:b0=b∧off=o:=by simpa using e
   refine .inr ⟨b0,off+a,rfl,hb,fun i hi=>?_⟩;rw[List.length_take,List.length_drop]at hi;rw[Nat.add_assoc,hc (a+i) (by omega),getD_take (by omega),getD_drop]⟩
 have:=zk (P:=prog) w 30 9 5 underlying30 underlying5 underlying9 h2 (cap-a);rw[List.length_take,List.length_drop,show min m (xs.length-a)=m from by omega]at this;exact this
theorem four{w:World}{N:Nat}{T:TypeId}{a b c d:Value}(h:w.heap[N]?=some (θ #[a,b,c,d] T (0,0))) :
  w.cell? ⟨N,0,none⟩=some a∧w.cell? ⟨N,1,none⟩=some b∧w.cell? ⟨N,2,none⟩=some c∧w.cell? ⟨N,3,none⟩=some d:=by
 simp[World.cell?,h]
theorem Qw8(g b0 off n cap:Nat)(s0:St)(k:Int)(a b m:Nat)(xs:List Int)(W0 WB:World)(h00:Below g WB W0)(hb':b=a+m)(hc:Cg g (some ⟨b0,off,none⟩) n cap s0 W0)(UA:RB W0 g (some ⟨b0,off,none⟩) xs)(hn:xs.length=n)(MP:n≤cap)(TI:cap≤maxLen)(hm:0<m)(vT:b≤n)(hsm:n≤1000000)
  (NA:k≠8) (WL:k≠7) (hl:s0.ZQ.length≤3000000) :
  Calls prog 41 (FF g k a b) W0 (Gc g (some ⟨b0,off,none⟩) n cap (keep s0 k ((xs.drop a).take m) a) WB):=by
 have Lv:Hid (∀W,Below g W0 W→(convert 30 9 (ς (some ⟨b0,off+a,none⟩) m (cap-a))).run prog W=.ok (σ (strOfNums ((xs.drop a).take m))) W):=fun W hW=>Qnr (UA.below hW (QH _)) hn (by omega)
 have b8:=Qy NA;have b7:=Qy WL;have hlen:((xs.drop a).take m).length=m:=by rw[List.length_take,List.length_drop];omega
 have Hv:ZZ ((xs.drop a).take m):=(UA.Ha.drop a).take m;generalize(xs.drop a).take m=t at *;obtain⟨K,hK⟩:=Mem.ZB (keep s0 k t a)
 have hk1:¬(s0.opn=true∧k=5)→K=⟨s0.ZQ++[⟨k,t,a,s0.first⟩],false,closes k t,b⟩:=fun ho=>by
  have:¬(s0.opn=true∧(k=8∨k=5)):=fun⟨h1,h2⟩=>ho ⟨h1,h2.resolve_left NA⟩
  rw[←hK];simp only[keep,if_neg this,if_neg NA,if_neg WL,hlen,hb']
 have hk2:(s0.opn=true∧k=5)→K=⟨(Ea s0).ZQ++[⟨k,t,a,(Ea s0).first⟩],false,closes k t,b⟩:=fun ho=>by
  have:s0.opn=true∧(k=8∨k=5):=⟨ho.1,.inr ho.2⟩;rw[←hK];simp only[keep,if_pos this,if_neg NA,if_neg WL,hlen,hb']
 rw[hK];have hab:b-a=m:=by omega
 have fV:(a:Int)≤b:=by omega
 have fU:(b:Int)≤cap:=by omega
 have hne:¬cap=a:=by omega
 have Wt:=QA (fun(f:Bool)(w:World)=>Qq7 k t Hv (a:Int) f w);have PC:=QA hk1;have Bv:=QA hk2;have bn:=QA hab;clear hK hk1 hk2 UA hn Hv hb' NA WL hlen;unfold maxLen at TI;have hsz:=hc.size;have Ot:=cell_of_one hc.o;have hfo:=free_of_one hc.o;have LZ:=cell_of_one hc.p;have hg0:∃o,s0.opn=o:=⟨_,rfl⟩;obtain⟨o,BP⟩:=hg0;rw[BP]at Ot PC Bv;have yb:=QA BP;have Wz:=QA h00;clear BP h00;have TH:o=false∨(o=true∧(k==5)=false∧k≠5)∨(o=true∧(k==5)=true∧k=5):=by
  cases o
  ·exact .inl rfl
  ·by_cases h:k=5
   ·exact .inr (.inr ⟨rfl,by rw[h];rfl,h⟩)
   ·exact .inr (.inl ⟨rfl,Qy h,h⟩)
 unfold FF;rcases TH with rfl|⟨rfl,b5,UW⟩|⟨rfl,b5,UW⟩
 case' inl=>have HK:=QA (PC.out (by simp));have HC:=QA hc;clear PC Bv hfo LZ hc yb;go_enter func41,ntmps41;go_wp2
 case' inr.inl=>have HK:=QA (PC.out (fun h=>UW h.2));have HC:=QA hc;clear PC Bv hfo LZ hc UW yb;go_enter func41,ntmps41;go_wp2
 case' inr.inr =>
  have HK:=QA (Bv.out ⟨rfl,UW⟩);obtain⟨v,hv,hown⟩:=hc.l;have hcl:=cell_of_one hv;have HC:=QA hc;have HV:=QA hv;have HO:=QA hown;clear hc hv hown PC Bv UW;go_enter func41,ntmps41;go_wp2_with (at_builtin;refine kF _ rfl _ _ rfl (g+5) v s0.ZQ ⟨6,[],s0.SX,false⟩ rfl HO.out W0.heap.size rfl rfl ?c1 hsz ?_)
  case c1=>omega
  intro v1 w1 hown1 hgr ZU hat;have hb:=ZU (g+5) (fun k hk=>(HO.out.lt k hk).1) hsz;have hbg:Below g W0 ((w1.setCell ⟨g+1,0,none⟩ v1).setCell ⟨g+3,0,none⟩ (τ false)):=((hb.mono (by omega)).setCell (p:=⟨g+1,0,none⟩) (by show g≤g+1;omega) _).setCell (p:=⟨g+3,0,none⟩) (by show g≤g+3;omega) _;have eA:Cg g (some ⟨b0,off,none⟩) n cap (Ea s0) ((w1.setCell ⟨g+1,0,none⟩ v1).setCell ⟨g+3,0,none⟩ (τ false)):=(HC.out.app HV.out hb hown1).Db false;have Nr:Hid (∀W,Below g ((w1.setCell ⟨g+1,0,none⟩ v1).setCell ⟨g+3,0,none⟩ (τ false)) W→(convert 30 9 (ς (some ⟨b0,off+a,none⟩) m (cap-a))).run prog W=.ok (σ (strOfNums t)) W):=fun W hW=>Lv.out W (hbg.trans hW)
  have Wy:=QA (Wz.out.trans hbg);have hl2:(Ea s0).ZQ.length≤3000001:=by simp[Ea];omega
  have h1:w1.heap[g+1]?=some (θ #[v] 38 (0,0)):=(hb.block (g+1) (by omega)).trans HV.out;have h3:w1.heap[g+3]?=some (θ #[τ s0.opn] 4 (0,0)):=(hb.block (g+3) (by omega)).trans HC.out.o;have c1:=cell_of_one h1;have f1:=free_of_one h1;have c3:=cell_of_one h3;have f3:=free_of_one h3;obtain⟨a1,q1,rfl,_,_⟩:=Gw hown1;have CS:=QA eA;clear HC HV HO Lv Wz hgr ZU hat hb h1 h3 hown1 Ot hfo hcl LZ hbg eA yb hsz hl;generalize(s0.ZQ++[(⟨6,[],s0.SX,false⟩:Tok)]).length=N at *;go_wp2;generalize((w1.setCell ⟨g+1,0,none⟩ (ς a1 N q1)).setCell ⟨g+3,0,none⟩ (τ false))=W0 at *;generalize Ea s0=s0 at *;clear c1 f1 c3 f3;have HC:=CS;have Lv:=Nr;have Wz:=Wy;clear CS Nr Wy;have hsz:=HC.out.size;have hl:=hl2
 all_goals
  have SR:s0.ZQ.length≤3000001:=by omega
  have jf:=cell_of_one HC.out.f;have hcb:=cell_of_one HC.out.b;have l0:g<W0.heap.size:=by omega
  have l2:g+2<W0.heap.size:=by omega
  have DI:∀o,(convert 30 9 (ς (some ⟨b0,off+a,none⟩) m (cap-a))).run prog (W0.alloc o).drew=.ok (σ (strOfNums t)) (W0.alloc o).drew:=fun o=>Lv.out _ (below_drewN ((QF g W0).alloc (by omega) o) 1)
  have DJ:(convert 30 9 (ς (some ⟨b0,off+a,none⟩) m (cap-a))).run prog W0.drew=.ok (σ (strOfNums t)) W0.drew:=Lv.out _ (below_drewN (QF g W0) 1);have hab:=bn.out
  go_region
 all_goals
  have Rz:Below W0.heap.size W0 (W0.alloc (θ #[ι κ k,σ (strOfNums t),ι κ (a:Int),τ s0.first] 75)).drew:=below_drewN ((QF _ _).alloc (QH _) _) 1;have hnew:(W0.alloc (θ #[ι κ k,σ (strOfNums t),ι κ (a:Int),τ s0.first] 75)).drew.heap[W0.heap.size]?=some (θ #[ι κ k,σ (strOfNums t),ι κ (a:Int),τ s0.first] 75 (0,0)):=heap_alloc_new W0 _;generalize(W0.alloc (θ #[ι κ k,σ (strOfNums t),ι κ (a:Int),τ s0.first] 75)).drew=W at *;have jg:=HC.out.below Rz;obtain⟨v,hv0,hown0⟩:=HC.out.l;have WI:=(Rz.block _ (lt_of_block hv0)).trans hv0;have uu:Py W (g+5) v s0.ZQ:=KR hown0 Rz (QH _);have dG:Hid (∀q,v.ownBlock=some q→q<W0.heap.size):=fun q hq=>(hown0.lt q hq).2
  have Lz:=QA (Wz.out.trans (Rz.mono (show g≤W0.heap.size by omega)));have fC:=Rz.size;have Nl:=QA hnew;have h4:=four hnew;clear DJ DI hcb jf hv0 hown0 HC Rz hnew Wz Lv hab l0 l2;generalize W0.heap.size=N at *;have iX:=cell_of_one WI;have iP:=free_of_one WI;obtain⟨d0,d1,d2,d3⟩:=h4;have ui:=jg.size;have hl4:s0.ZQ.length≤10000000:=by omega
  have HC:=QA jg;have HV:=QA WI;have HO:=QA uu;clear jg WI uu;go_wp2_with (at_builtin;refine kF _ rfl _ _ rfl (g+5) v s0.ZQ ⟨k,t,a,s0.first⟩ rfl HO.out W.heap.size rfl rfl hl4 ui ?_);intro v1 w1 hown1 hgr ZU hat;have hb:=ZU (g+5) (fun q hq=>(HO.out.lt q hq).1) ui;have iH:N<W.heap.size:=lt_of_block Nl.out;have ek:w1.heap[N]?=some (θ #[ι κ k,σ (strOfNums t),ι κ (a:Int),τ s0.first] 75 (0,0)) :=
   (hgr.block N (by simp;omega) (fun e=>by have:=dG.out N e.symm;omega)).trans ((Below.heap_alloc W _ N iH).trans Nl.out)
  have OO:=HC.out.app HV.out hb hown1;have hbg:Below g WB (w1.setCell ⟨g+1,0,none⟩ v1):=(Lz.out.trans (hb.mono (by omega))).setCell (p:=⟨g+1,0,none⟩) (by show g≤g+1;omega) _;have h4:(w1.setCell ⟨g+1,0,none⟩ v1).heap[N]?=some (θ #[ι κ k,σ (strOfNums t),ι κ (a:Int),τ s0.first] 75 (0,0)):=(Below.heap_setCell w1 ⟨g+1,0,none⟩ v1 N (by show N≠g+1;omega)).trans ek;obtain⟨e0,e1,e2,e3⟩:=four h4;have h1:w1.heap[g+1]?=some (θ #[v] 38 (0,0)):=(hb.block (g+1) (by omega)).trans HV.out;have c1:=cell_of_one h1;have f1:=free_of_one h1;have OM:=OO.below ((QF _ _).alloc (QH _) (θ #[ι κ k,σ (strOfNums t),ι κ (a:Int),τ s0.first] 75));have s2:=OM.f;have s3:=OM.o;have s4:=OM.p;have c2:=cell_of_one s2;have f2:=free_of_one s2;have c3:=cell_of_one s3;have f3:=free_of_one s3;have c4:=cell_of_one s4;have f4:=free_of_one s4;have hs1:=OO.size;have EJ:=QA (Wt.out s0.first (w1.setCell ⟨g+1,0,none⟩ v1));have hfin:Hid (Gc g (some ⟨b0,off,none⟩) n cap K WB (ρ (.tuple #[])) (((((w1.setCell ⟨g+1,0,none⟩ v1).alloc (θ #[ι κ k,σ (strOfNums t),ι κ (a:Int),τ s0.first] 75)).setCell ⟨g+2,0,none⟩ (τ false)).setCell ⟨g+3,0,none⟩ (τ (closes k t))).setCell ⟨g+4,0,none⟩ (ι κ (b:Int)))):=⟨rfl,by
   rw[HK.out];exact(((OO.below ((QF _ _).alloc (QH _) _)).Dc false).Db (closes k t)).zZ b,
   (((hbg.alloc (by omega) _).setCell (p:=⟨g+2,0,none⟩) (by show g≤g+2;omega) _).setCell (p:=⟨g+3,0,none⟩) (by show g≤g+3;omega) _).setCell (p:=⟨g+4,0,none⟩) (by show g≤g+4;omega) _⟩
  obtain⟨a1,q1,rfl,_,_⟩:=Gw hown1;clear hs1 hgr ZU hat hb ek OO OM hbg h4 h1 s2 s3 s4 hown1 iX iP Nl HV HO HC Lz dG Wt HK bn d0 d1 d2 d3;generalize(s0.ZQ++[(⟨k,t,a,s0.first⟩:Tok)]).length=M at *;generalize closes k t=cl at *;go_wp2_with fail;generalize(w1.setCell ⟨g+1,0,none⟩ (ς a1 M q1))=W2 at *;refine EJ.out.mono ?_;rintro e w' ⟨rfl,rfl⟩;generalize W2.alloc (θ #[ι κ k,σ (strOfNums t),ι κ (a:Int),τ s0.first] 75)=W3 at *;go_wp2
  go_end0
  exact hfin.out
theorem Qw9(g b0 off n cap:Nat)(s:St)(k:Int)(a b m:Nat)(xs:List Int)(w:World)(hb':b=a+m)(hc:Cg g (some ⟨b0,off,none⟩) n cap s w)(UA:RB w g (some ⟨b0,off,none⟩) xs)(hn:xs.length=n)(MP:n≤cap)(TI:cap≤maxLen)(hm:0<m)(vT:b≤n)(hsm:n≤1000000)(hl:s.ZQ.length≤3000000) :
  Calls Tryz.prog 41 #[ι κ k,ι κ (a:Int),ι κ (b:Int),π (some ⟨g+1+1+1,0,none⟩),π (some ⟨g+1,0,none⟩),π (some ⟨g+1+1+1+1,0,none⟩),π (some ⟨g+1+1,0,none⟩),π (some ⟨g,0,none⟩)] w (Gc g (some ⟨b0,off,none⟩) n cap (keep s k ((xs.drop a).take m) a) w):=by
 by_cases h8:k=8
 ·subst h8;by_cases ho:s.opn=true
  ·exact pT g _ n cap s a b w hc ho hl _
  ·exact xK g _ n cap s 8 a b w hc (.inl ⟨rfl,by simpa using ho⟩) _
 by_cases h7:k=7
 ·exact xK g _ n cap s k a b w hc (.inr h7) _
 ·exact Qw8 g b0 off n cap s k a b m xs w w (Below.refl _ _) hb' hc UA hn MP TI hm vT hsm h8 h7 hl
theorem Qtt(g:Nat)(A:Option Addr)(n cap:Nat)(s:St)(a b:Nat)(w:World)(hc:Cg g A n cap s w)(hl:s.ZQ.length≤3000000) :
  Calls Tryz.prog 41 #[ι κ 8,ι κ (a:Int),ι κ (b:Int),π (some ⟨g+1+1+1,0,none⟩),π (some ⟨g+1,0,none⟩),π (some ⟨g+1+1+1+1,0,none⟩),π (some ⟨g+1+1,0,none⟩),π (some ⟨g,0,none⟩)] w (Gc g A n cap (keep s 8 [] 0) w):=by
 have e:keep s 8 [] 0=keep s 8 [] a:=by simp[keep]
 rw[e];by_cases ho:s.opn=true
 ·exact pT g _ n cap s a b w hc ho hl _
 ·exact xK g _ n cap s 8 a b w hc (.inl ⟨rfl,by simpa using ho⟩) _
def Way(xs:List Int)(n k:Nat)(s:St):Prop:=∃f,n-k≤f∧U7 f (xs.drop k) k s=U7 n xs 0 st0
theorem Qpg(xs:List Int)(n:Nat):Way xs n 0 st0:=⟨n,by omega,by rw[List.drop_zero]⟩
theorem Qr8{xs:List Int}{n k:Nat}{s:St}(h:Way xs n k s)(hn:xs.length=n)(hk:k<n)(hp:(piece (xs.drop k)).2≠0) :
  Way xs n (k+(piece (xs.drop k)).2) (keep s (piece (xs.drop k)).1 ((xs.drop k).take (piece (xs.drop k)).2) k):=by
 obtain⟨f,hf,h⟩:=h;cases f with
 |zero=>omega
 |succ f =>
  refine⟨f,by omega,?_⟩;rw[←h];conv=>rhs;unfold U7
  rw[if_neg hp,List.drop_drop]
theorem tK{xs:List Int}{n k:Nat}{s:St}(h:Way xs n k s)(hp:(piece (xs.drop k)).2=0):U7 n xs 0 st0=(s,k):=by
 obtain⟨f,hf,h⟩:=h;rw[←h];cases f with
 |zero=>rfl
 |succ f=>unfold U7;rw[if_pos hp]
def Yc(xs:List Int)(w:World)(e:Ending)(w':World):Prop :=
 ∃v,e=ρ (.tuple #[v,ι κ ((xs.length-(left xs).length:Nat):Int)])∧Py w' w.heap.size v (ZQ xs)∧Below w.heap.size w w'
theorem sY{xs:List Int}{n k:Nat}{s:St}{g:Nat}{A:Option Addr}{cap:Nat}{w w':World}(hn:xs.length=n)(h:U7 n xs 0 st0=(s,k))(hg:g=w.heap.size)(hc:Cg g A n cap (keep s 8 [] 0) w')(hb:Below g w w') :
  ∃v,w'.heap[g+1]?=some (θ #[v] 38 (0,0))∧(∃a c,v=ς a (ZQ xs).length c)∧Yc xs w (ρ (.tuple #[v,ι κ (k:Int)])) w':=by
 subst hg;subst hn;rw[Qsa]at h;obtain⟨h1,h2⟩:Ez st0 0 (pieces xs)=s∧xs.length-(left xs).length=k:=by simpa using h
 obtain⟨v,hv,ho⟩:=hc.l;rw[←h1,Qq0]at ho;obtain⟨a,c,e,_,_⟩:=Gw ho;exact⟨v,hv,⟨a,c,e⟩,v,by rw[h2],Quo ho (by omega),hb⟩
theorem Q3p{w:World}{o1 o2 o3 o4 o5:Obj} :
  ((((((w.alloc o1).alloc o2).alloc o3).alloc o4).alloc o5).heap[w.heap.size]?=some o1)∧((((((w.alloc o1).alloc o2).alloc o3).alloc o4).alloc o5).heap[w.heap.size+1]?=some o2)∧
  ((((((w.alloc o1).alloc o2).alloc o3).alloc o4).alloc o5).heap[w.heap.size+2]?=some o3)∧((((((w.alloc o1).alloc o2).alloc o3).alloc o4).alloc o5).heap[w.heap.size+3]?=some o4)∧
  ((((((w.alloc o1).alloc o2).alloc o3).alloc o4).alloc o5).heap[w.heap.size+4]?=some o5):=by
 have k:∀(W:World)(o:Obj)(i:Nat),i<W.heap.size→(W.alloc o).heap[i]?=W.heap[i]?:=fun W o i hi=>Below.heap_alloc W o i hi
 have z:∀(W:World)(o:Obj),(W.alloc o).heap.size=W.heap.size+1:=fun W o=>by simp
 have nw:∀(W:World)(o:Obj)(i:Nat),i=W.heap.size→(W.alloc o).heap[i]?=some o:=fun W o i hi=>by subst hi;exact heap_alloc_new W o
 refine⟨?_,?_,?_,?_,?_⟩
 ·rw[k _ _ _ (by simp only[z];omega),k _ _ _ (by simp only[z];omega),k _ _ _ (by simp only[z];omega),k _ _ _ (by simp only[z];omega),nw _ _ _ rfl]
 ·rw[k _ _ _ (by simp only[z];omega),k _ _ _ (by simp only[z];omega),k _ _ _ (by simp only[z];omega),nw _ _ _ (by simp only[z])]
 ·rw[k _ _ _ (by simp only[z];omega),k _ _ _ (by simp only[z];omega),nw _ _ _ (by simp only[z])]
 ·rw[k _ _ _ (by simp only[z];omega),nw _ _ _ (by simp only[z])]
 ·rw[nw _ _ _ (by simp only[z])]
theorem Q1w(A:Option Addr)(n cap:Nat)(w:World):Cg w.heap.size A n cap st0 (((((w.alloc (θ #[ς A n cap] 30)).alloc (θ #[ς none 0 0] 38)).alloc (θ #[τ true] 4)).alloc (θ #[τ false] 4)).alloc (θ #[ι κ 0] 3)):=by
 obtain⟨h1,h2,h3,h4,h5⟩:=@Q3p w (θ #[ς A n cap] 30) (θ #[ς none 0 0] 38) (θ #[τ true] 4) (θ #[τ false] 4) (θ #[ι κ 0] 3);exact⟨h1,⟨ς none 0 0,h2,World.ownsRow_nil _ _ _ _⟩,h3,h4,h5⟩
theorem Qre(o1 o2 o3 o4 o5:Obj)(w:World):Below w.heap.size w (((((w.alloc o1).alloc o2).alloc o3).alloc o4).alloc o5) :=
 (((((Below.refl _ _).alloc (Nat.le_refl _) _).alloc (by simp) _).alloc (by simp;omega) _).alloc (by simp;omega) _).alloc (by simp;omega) _
theorem Qts(A:Option Addr)(n cap:Nat)(xs:List Int)(w:World)(B:Nat)(h:RB w B A xs)(hB:B≤w.heap.size)(hn:xs.length=n)(hcap:n≤cap)(ZF:cap≤maxLen)(hsm:n≤1000000)(hT:LO w) :
  Calls Tryz.prog 26 #[ς A n cap] w (Yc xs w):=by
 have HR:=QA h;have Hn:=QA hn;have HT:=QA hT;have ye:=QA ZF;have Nl:=QA (Q1w A n cap w);clear h hn hT;unfold maxLen at ZF;go_enter Tryz.func26,Tryz.ntmps26;go_wp2;have HBN:=QA (Qre (θ #[ς A n cap] 30) (θ #[ς none 0 0] 38) (θ #[τ true] 4) (θ #[τ false] 4) (θ #[ι κ 0] 3) w);generalize((((w.alloc (θ #[ς A n cap] 30)).alloc (θ #[ς none 0 0] 38)).alloc (θ #[τ true] 4)).alloc (θ #[τ false] 4)).alloc (θ #[ι κ 0] 3)=W5 at *
 go_loopw [5,6,7] (fun at_ _ _ wr=>∃(k:Nat)(s:St),k≤n∧at_=ι κ k∧Hid (Way xs n k s)∧Hid (Cg w.heap.size A n cap s wr)∧Hid (Below w.heap.size w wr)∧s.ZQ.length≤2*k) (fun at_ _ _ _=>n-(intOf at_).toNat)
 case atStart=>exact⟨0,st0,Nat.zero_le _,rfl,Qpg xs n,Nl.out,HBN.out,by simp[st0]⟩
 case round =>
  obtain⟨k,s,hk,rfl,Ty,Ov,ZU,hlen⟩:=hrel;have CP:=QA (fun(W:World)(hc:Cg w.heap.size A n cap s W)=>Qtt w.heap.size A n cap s k k W hc (by omega));by_cases hlt:k<n
  ·obtain⟨b,off,rfl,uT,hcell⟩:=HR.out.cell (by intro e;have:=Hn.out;rw[e]at this;simp at this;omega);have NC:¬cap=k:=by omega
   have GW:(xs.drop k).length=n-k:=by rw[List.length_drop,Hn.out]
   have UA:=HR.out.below ZU.out hB;have um:RB wr B (some ⟨b,off+k,none⟩) (xs.drop k):=by
    have:=UA.drop (k:=k) (cap:=cap) (by rw[Hn.out];omega) (by rw[Hn.out];omega);rw[if_neg NC]at this;have e:(⟨b,off,none⟩:Addr).add k=⟨b,off+k,none⟩:=by unfold Addr.add;split <;> simp_all
    simpa[e]using this
   have dR:=QA (Vk (some ⟨b,off+k,none⟩) (n-k) (cap-k) (xs.drop k) wr B um (by have:=ZU.out.size;omega) GW (by omega) (by omega) (by unfold maxLen;omega) (by omega) (HT.out.below ZU.out HT.out.pos));have Wj:Hid ((piece (xs.drop k)).2≤n-k):=by have:=zh (xs.drop k);rw[GW]at this;exact this
   have HST:Hid ((piece (xs.drop k)).2=0→U7 n xs 0 st0=(s,k)):=tK Ty.out;have QL:Hid ((piece (xs.drop k)).2≠0→Way xs n (k+(piece (xs.drop k)).2) (keep s (piece (xs.drop k)).1 ((xs.drop k).take (piece (xs.drop k)).2) k)):=Qr8 Ty.out Hn.out hlt;have Rj:Hid (∀W,Below w.heap.size w W→RB W w.heap.size (some ⟨b,off,none⟩) xs):=fun W hW=>(HR.out.below hW hB).more hB
   generalize piece (xs.drop k)=P at *;obtain⟨kk,m⟩:=P;clear Ty UA um GW hcell;by_cases hm0:m=0
   ·subst hm0;have UG:=QA (HST.out rfl);clear HST QL Wj Rj;go_wp2_with (go_at_call 64;refine c₁ dR.out fun wn Mo=>?_);refine(CP.out _ (Ov.out.below Mo)).mono ?_;rintro e w' ⟨rfl,hc1,hb1⟩;obtain⟨v,hv,⟨a1,c1,rfl⟩,hp⟩:=sY Hn.out UG.out rfl hc1 ((ZU.out.trans (Mo.mono (by have:=Ov.out.size;omega))).trans hb1);have HP:=QA hp;have hcv:=cell_of_one hv;clear hv hp hc1 hb1 Mo;go_wp2
    go_ret2
    exact HP.out
   ·have hmb:((m:Int)==0)=false:=Qy (by omega);have UG:=QA (QL.out hm0);have Du:=Wj.out;clear HST QL Wj;go_wp2_with (go_at_call 64;refine c₁ dR.out fun wn Mo=>?_);have Ou:=Ov.out.below Mo;have TK:=ZU.out.trans (Mo.mono (by have:=Ov.out.size;omega));have hrow:=Qw9 w.heap.size b off n cap s kk k (k+m) m xs wn rfl Ou (Rj.out _ TK) Hn.out hcap ye.out (by omega) (by omega) hsm (by omega);rw[show((k+m:Nat):Int)=(k:Int)+(m:Int)from by omega]at hrow;have hl2:(keep s kk ((xs.drop k).take m) k).ZQ.length≤s.ZQ.length+2:=Q00;have ZL:=QA hrow;have GA:=QA TK;clear hrow Ou TK Mo
    with_reducible refine ZL.out.mono ?_
    rintro e w' ⟨rfl,hc1,hb1⟩;have zT:=QA hc1;have QJ:=QA hb1;clear hc1 hb1;go_wp2
    go_roundw
    case rel=>exact⟨k+m,_,by omega,by go_num,UG.out,zT.out,GA.out.trans QJ.out,by omega⟩
    case measure=>simp[intOf];omega
  ·have HST:=QA (tK Ty.out (show(piece (xs.drop k)).2=0 by rw[List.drop_eq_nil_of_le (by rw[Hn.out];omega)];rfl));clear Ty;go_wp2_with fail
   with_reducible refine(CP.out _ Ov.out).mono ?_
   rintro e w' ⟨rfl,hc1,hb1⟩;obtain⟨v,hv,⟨a1,c1,rfl⟩,hp⟩:=sY Hn.out HST.out rfl hc1 (ZU.out.trans hb1);have HP:=QA hp;have hcv:=cell_of_one hv;clear hv hp hc1 hb1;go_wp2
   go_ret2
   exact HP.out
end Lex
namespace Mem
variable {P:Program}{Q:Exit→Act→World→Prop}
def waits(l:List Oper)(s i:Nat):Bool:=((l[s]?).map fun o=>o.after.any fun e=>Region.binds .any e&&e.on==i).getD false
def Bc(P:Program)(l:List Oper)(t0:Array Value)(Q:Exit→Act→World→Prop)(s:Nat)(S:World→Prop){T:World→World→Prop}(Φ:List (Cd T))(x:Nat→Value)(a:Act)(W:World):Nat→List Oper→Prop
  |_,[]=>True
  |i,o::os=>((∀j,waits l j i=true→x j=NH l t0 j)→(waits l s i=true∨i=s→S W)→(∀j,(o.after.any fun e=>Region.binds .any e&&e.on==j)=true→(YE Φ j).p (x j) W)→∀K:Act→World→Prop,Shut (∀v W',T W W'→(i=s∨(S W→S W'))→(YE Φ i).p v W'→K (a.put o.dst v) W')→Xa P l Q o K a W)∧Bc P l t0 Q s S Φ x a W (i+1) os
theorem Bc.get{l:List Oper}{t0:Array Value}{s:Nat}{S:World→Prop}{T:World→World→Prop}{Φ:List (Cd T)}{x:Nat→Value}{a:Act}{W:World}:∀(os:List Oper)(k i:Nat)(o:Oper),Bc P l t0 Q s S Φ x a W k os→os[i]?=some o→
    ((∀j,waits l j (k+i)=true→x j=NH l t0 j)→(waits l s (k+i)=true∨k+i=s→S W)→(∀j,(o.after.any fun e=>Region.binds .any e&&e.on==j)=true→(YE Φ j).p (x j) W)→∀K:Act→World→Prop,Shut (∀v W',T W W'→(k+i=s∨(S W→S W'))→(YE Φ (k+i)).p v W'→K (a.put o.dst v) W')→Xa P l Q o K a W)
  |[],_,_,_,_,h=>by simp at h
  |p::os,k,0,o,hs,h=>by
   simp only[List.getElem?_cons_zero,Option.some.injEq]at h;subst h;exact hs.1
  |p::os,k,i+1,o,hs,h=>by
   have:=Bc.get os (k+1) i o hs.2 (by simpa using h);rwa[show k+1+i=k+(i+1)by omega]at this
theorem Qt3{l:List Oper}{s:Nat}{S:World→Prop}{T:World→World→Prop}{Φ:List (Cd T)}{a0:Act}{w1:World}(hn:(Yw l).Nodup)(he:Jm l=true)(htr:∀W1 W2 W3,T W1 W2→T W2 W3→T W1 W3)
    (hsteps:∀x W,T w1 W→∀a,a=(⟨Q6 x 0 l a0.tmps,a0.defers⟩:Act)→Bc P l a0.tmps Q s S Φ x a W 0 l)
    (hdone:∀x W,T w1 W→(∀i,i<l.length→(YE Φ i).p (x i) W)→∀a,a=(⟨Q6 x 0 l a0.tmps,a0.defers⟩:Act)→Q .normal a W) :
    ∀(fuel:Nat)(listed:Array Bool)(x:Nat→Value)(a:Act)(W:World),PF listed l.length=fuel→a=⟨Q6 x 0 l a0.tmps,a0.defers⟩→T w1 W→(∀i,i<l.length→listed.getD i true=true→(YE Φ i).p (x i) W)→
     (listed.getD s true=false→S W)→(∀j,j<l.length→listed.getD j true=true→∀i,waits l j i=true→listed.getD i true=true)→(l.length≤listed.size)→(∀j,j<l.length→listed.getD j true=false→x j=NH l a0.tmps j)→
     wpAny P .any l.toArray Q fuel listed a W:=by
  have all:∀listed:Array Bool,Region.ready .any l.toArray listed=[]→∀i,i<l.length→listed.getD i true=true:=by
    intro listed hr i
    induction i using Nat.strongRecOn with
    |_ i ih =>
     intro hi;by_cases hl:listed.getD i true=true
     ·exact hl
     ·exfalso
      have hm:i∈Region.ready .any l.toArray listed:=mem_ready.2 ⟨by simpa using hl,l[i],by simp[hi],fun e hm hb=>by
        have h1:=List.all_eq_true.1 he i (List.mem_range.2 hi);simp only[List.getElem?_eq_getElem hi]at h1;have h2:=Array.all_eq_true_iff_forall_mem.1 h1 e hm;simp only[hb,Bool.not_true,Bool.false_or,decide_eq_true_eq]at h2;have h3:=ih e.on h2 (by omega);rcases Nat.lt_or_ge e.on listed.size with h' |h'
        ·simpa[h']using h3
        ·exfalso;have h4:listed.getD i true=true:=by simp[Array.getElem?_eq_none (show listed.size≤i by omega)]
         exact hl h4⟩
      rw[hr]at hm;cases hm
  intro fuel
  induction fuel with
  |zero =>
   intro listed x a W hf ha hT hx _ _ _ _;have hall:=Ee hf;refine⟨?_,hdone x W hT (fun i hi=>hx i hi (hall i hi)) a ha⟩;cases hr:Region.ready .any l.toArray listed with
   |nil=>rfl
   |cons i rs =>
    exfalso;obtain⟨h0,o,ho,_⟩:=mem_ready.1 (show i∈Region.ready .any l.toArray listed by rw[hr];exact List.mem_cons_self ..);have hi:i<l.length:=by have:=(Array.getElem?_eq_some_iff.1 ho).1;simpa using this
    rw[hall i hi]at h0;cases h0
  |succ fuel ih =>
   intro listed x a W hf ha hT hx hS hws hsz hin;refine⟨fun hr=>hdone x W hT (fun i hi=>hx i hi (all listed hr i hi)) a ha,fun i hi=>?_⟩;obtain⟨h0,o,ho,PW⟩:=mem_ready.1 hi;have ho':l[i]?=some o:=by simpa using ho
   have hil:i<l.length:=(List.getElem?_eq_some_iff.1 ho').1
   have TG:∀j,(o.after.any fun e=>Region.binds .any e&&e.on==j)=true→listed.getD j true=true∧j<i:=fun j hj=>by
     rw[←Array.any_toList,List.any_eq_true]at hj;obtain⟨e,hm0,hb⟩:=hj;have hm:e∈o.after:=Array.mem_toList_iff.1 hm0;simp only[Bool.and_eq_true,beq_iff_eq]at hb;have h1:=PW e hm hb.1;rw[hb.2]at h1;have hjl:j<listed.size:=by
       rcases Nat.lt_or_ge j listed.size with h' |h'
       ·exact h'
       ·simp[Array.getElem?_eq_none h']at h1
     have h2:=List.all_eq_true.1 he i (List.mem_range.2 hil);simp only[ho']at h2;have h3:=Array.all_eq_true_iff_forall_mem.1 h2 e hm;simp only[hb.1,Bool.not_true,Bool.false_or,decide_eq_true_eq]at h3;exact⟨by simpa[hjl]using h1,by omega⟩
   have hst:=Bc.get l 0 i o (hsteps x W hT a ha) ho' (fun j hw=>by
       rw[JN]at hw;have hsl:j<l.length:=by
         unfold waits at hw;rcases Nat.lt_or_ge j l.length with h' |h'
         ·exact h'
         ·rw[List.getElem?_eq_none h']at hw;cases hw
       refine hin j hsl ?_;by_cases hl:listed.getD j true=true
       ·exfalso;rw[hws j hsl hl i hw]at h0;cases h0
       ·simpa using hl) (fun hw=>by
       rw[JN]at hw;rcases hw with hw|hw
       ·refine hS ?_;by_cases hl:listed.getD s true=true
        ·exfalso;have hsl:s<l.length:=by
            unfold waits at hw;rcases Nat.lt_or_ge s l.length with h' |h'
            ·exact h'
            ·rw[List.getElem?_eq_none h']at hw;cases hw
         rw[hws s hsl hl i hw]at h0;cases h0
        ·simpa using hl
       ·subst hw;exact hS h0)
     (fun j hj=>hx j (by have:=(TG j hj).2;omega) (TG j hj).1)
     (fun a' W'=>wpAny P .any l.toArray Q fuel (listed.setIfInBounds i true) a' W')
     (by
       intro v W' Sv ei hv;rw[JN]at hv ei;refine ih (listed.setIfInBounds i true) (Vf x i v) _ W' (by have:=AV h0 hil;omega) ?_ (htr _ _ _ hT Sv) (fun j hj hl=>?_) (fun hl=>?_) (fun q vL hl j hw=>?_) (by simpa using hsz) (fun j hjl hl=>?_)
       ·rw[ha];cases hd:o.dst with
        |none =>
         simp only[Act.put]
         congr 1
         have key:∀(os:List Oper)(k m:Nat)(t:Array Value),os[m]?=some o→Q6 (Vf x (k+m) v) k os t=Q6 x k os t:=by
           intro os
           induction os with
           |nil=>intro k m t h;rfl
           |cons p os Di =>
            intro k m t h;cases m with
            |zero=>simp only[List.getElem?_cons_zero,Option.some.injEq]at h;subst h;simp only[Q6,hd];exact Ku os (k+1) _ fun j hj=>by simp only[Vf];rw[if_neg (by omega)]
            |succ m =>
             simp only[Q6];have e1:Vf x (k+(m+1)) v k=x k:=by simp only[Vf];rw[if_neg (by omega)]
             rw[e1,show k+(m+1)=k+1+m by omega];exact Di (k+1) m _ (by simpa using h)
         have:=key l 0 i a0.tmps ho';rw[JN]at this;exact this.symm
        |some d =>
         simp only[Act.put]
         congr 1
         have:=Ub (x:=x) (v:=v) l 0 i o a0.tmps hn ho' hd;rw[JN]at this;exact this.symm
       ·by_cases YI:j=i
        ·subst YI;simpa[Vf]using hv
        ·have e1:Vf x i v j=x j:=by simp only[Vf];rw[if_neg YI]
         rw[e1];rw[getD_set_ne true (Ne.symm YI)]at hl;exact(YE Φ j).mono _ _ _ Sv (hx j hj hl)
       ·by_cases Ss:i=s
        ·subst Ss;exfalso;simp[show i<listed.size by omega]at hl
        ·rw[getD_set_ne true Ss]at hl;exact(ei.resolve_left Ss) (hS hl)
       ·by_cases YI:j=i
        ·subst YI;simp[show j<listed.size by omega]
        ·rw[getD_set_ne true (Ne.symm YI)];by_cases Ss:i=q
         ·subst Ss;unfold waits at hw;rw[ho']at hw;exact(TG j (by simpa using hw)).1
         ·rw[getD_set_ne true Ss]at hl;exact hws q vL hl j hw
       ·by_cases YI:j=i
        ·subst YI;exfalso;simp[show j<listed.size by omega]at hl
        ·have e1:Vf x i v j=x j:=by simp only[Vf];rw[if_neg YI]
         rw[e1];rw[getD_set_ne true (Ne.symm YI)]at hl;exact hin j hjl hl)
   unfold Xa at hst;unfold wpOp;simp only[ho];split
   ·rename_i hw
    rw[if_pos hw]at hst;exact .inl hst
   ·rename_i hw
    rw[if_neg hw]at hst;exact hst
theorem mY{id:Nat}{l:List Oper}{a0:Act}{w:World}(s:Nat)(S:World→Prop)(T:World→World→Prop)(Φ:List (Cd T))(hm:P.follows .mixedOrders=true)(hn:(Yw l).Nodup)(he:Jm l=true)
    (hS:S w.drew) (hrf:T w.drew w.drew) (htr:∀W1 W2 W3,T W1 W2→T W2 W3→T W1 W3)
    (hsteps:∀x W,T w.drew W→∀a,a=(⟨Q6 x 0 l a0.tmps,a0.defers⟩:Act)→Bc P l a0.tmps Q s S Φ x a W 0 l)
    (hdone:∀x W,T w.drew W→(∀i,i<l.length→(YE Φ i).p (x i) W)→∀a,a=(⟨Q6 x 0 l a0.tmps,a0.defers⟩:Act)→Q .normal a W) :
    (Code.region id l.toArray true).wp P Q a0 w:=by
  refine wp_region_any hm (Qt3 (a0:=a0) (w1:=w.drew) (Φ:=Φ) (s:=s) (S:=S) hn he htr hsteps hdone l.toArray.size (Array.replicate l.toArray.size false) (NH l a0.tmps) a0 w.drew ?_ ?_ hrf ?_ (fun _=>hS) ?_ ?_ (fun _ _ _=>rfl))
  ·simpa using Yy l.length l.length (Nat.le_refl _)
  ·rw[Yn]
  ·intro i hi h;exfalso;simp[hi]at h
  ·intro j hsl h;exfalso;simp[hsl]at h
  ·simp
