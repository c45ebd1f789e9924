import Derived.Test.YtmepekognmlblaaGreatDoorP45
set_option maxHeartbeats 32000000
set_option maxRecDepth 100000
set_option linter.unusedVariables false
open Go.Proofs.Tryz Go.ChangeShapes Go.WideShapes Go.ChangeAt Go.RowKit
open Go.Lib renaming hid→QA
open _root_.List renaming length_append→ZU,length_take→JS,setIfInBounds_toArray→ZC,set_cons_succ→ZA,set_cons_zero→QZ,getElem?_eq_getElem→QN
open Go.World renaming block_lt_of_cell?→VJ
open Go.Value renaming string→σ,int→ι,slice→ς,pointer→π,bool→τ,agg→ξ
open Go.IntKind renaming i64→γ
open Go.Obj renaming cells→θ
open Go.Ending renaming returned→ρ
namespace Go.Proofs.YtmepekognmlblaaGreatDoor
namespace Match
open Mem Tree Shape
attribute [local go_sem] Oper.semAt_some
theorem Qpz{F:Fence}{n:Nat}(w:World){ops:Array Oper}{rest:List Oper}{o:Oper}{a:Act}{Q:Exit→Act→World→Prop}(hgd:o.guard=none)(s x:Operand)
 (ho:o.op=.call { callee:=.builtin .append,args:=#[s,x],argTypes:=#[32,32] }) (base:Nat) (v:Value) (m:Nat) (vs:List Value) (line:Value) (hs:a.eval s=v)
 (hown:w.ownsRow base 3 1 v m vs) (h1:line.oneCell'=true) (g:Nat) (hg:g=w.heap.size) (hx:a.eval x=ς (some ⟨g,0,none⟩) 1 1) (h63:m≤1000000000) (hbase:base≤w.heap.size)
 (h:∀v' w',w'.ownsRow base 3 1 v' (m+1) (vs++[line])→(w.alloc (θ #[line] 3)).grownBy w' v.ownBlock→wpListIn F n prog ops Q rest (a.put o.dst v') w') :
 wpListIn F n prog ops Q (o::rest) a (w.alloc (θ #[line] 3)):=by
 obtain⟨i0,hi0,hz0,hz1,hz2⟩:=info_parts Zq;subst hg;refine wpListIn_plain hgd fun K hK=>?_
 obtain⟨v',w',hr,h2,h3,_,h5⟩:=run_append_own_at (P:=prog) (w.alloc (θ #[line] 3)) base 32 o.type 3 i0 (ι γ 0) 1 8 underlying32 hi0 hz0 hz1 hz2 rfl δ v m vs (hown.alloc _) ⟨w.heap.size,0,none⟩ 1 1 [line] rfl (cell_one_new _ _ _) (by simp[h1]) (by unfold maxLen;omega) ω (by simp;omega);unfold Oper.wpIn;refine⟨?_,?_⟩
 ·simp[Oper.about,ho,resolve,Target.leads,Sem.run_pure]
 ·rw[Oper.semAt_plain F _ _ (by rw[ho];intro c hc';cases hc')];simp[execOp,ho,resolve,invoke,builtin,hs,hx,hr,Result.andThen];exact hK _ _ (h v' w' h2 h3)
theorem Y2{w w':World}{B n:Nat}{v:Value}{xs:List Value}{E:TypeId}(h:w.ownsRow B E 1 v n xs)(hk:∀(k:Nat)(cs:Array Value)(fz:Nat×Nat),w.heap[k]?=some (θ cs E fz)→w'.heap[k]?=some (θ cs E fz)):w'.ownsRow B E 1 v n xs:=by
 refine⟨h.1,?_⟩;rcases h.2 with hn|⟨g,cap,cur,e,h1,h2,h3⟩
 ·exact .inl hn
 ·exact .inr ⟨g,cap,cur,e,h1,hk _ _ _ h2,h3⟩
theorem š{w:World}{B n:Nat}{v:Value}{xs:List Value}{E:TypeId}(h:w.ownsRow B E 1 v n xs):∀(j:Nat)(o:Obj),v.ownBlock=some j→w.heap[j]?=some o→∃cs fz,o=θ cs E fz:=by
 intro j o hj ho;rcases h.2 with⟨rfl,_⟩|⟨g,cap,cur,rfl,_,hg,_⟩
 ·simp[Value.ownBlock]at hj
 ·simp only[Value.ownBlock,Option.some.injEq]at hj;subst hj;rw[hg]at ho;cases ho
  exact⟨_,_,rfl⟩
theorem Jy{w:World}{B n:Nat}{v:Value}{xs:List Value}{E:TypeId}(h:w.ownsRow B E 1 v n xs):∃A c,v=ς A n c:=by
 rcases h.2 with⟨rfl,h0⟩|⟨g,cap,cur,rfl,_,hg,_⟩
 ·exact⟨none,0,by rw[h0]⟩
 ·exact⟨_,_,rfl⟩
theorem ib{w:World}{base base' size n:Nat}{E:TypeId}{v:Value}{vs:List Value}(h:w.ownsRow base E size v n vs)(hb:base'≤base):w.ownsRow base' E size v n vs:=by
 refine⟨h.1,?_⟩;rcases h.2 with hn|⟨g,cap,cur,e,h1,h2⟩
 ·exact .inl hn
 ·exact .inr ⟨g,cap,cur,e,ω,h2⟩
theorem Qfk{w:World}{B n:Nat}{v:Value}{xs:List Value}{E:TypeId}(h:w.ownsRow B E 1 v n xs):∃A C,v=ς A n C∧n≤C∧C≤maxLen∧∀(i:Nat)(u:Value),xs[i]?=some u→∃g,A=some ⟨g,0,none⟩∧w.cell? ⟨g,i,none⟩=some u:=by
 have h1:=h.1;rcases h.2 with⟨rfl,h0⟩|⟨g,cap,cur,rfl,q1,q2,q3,q4,q5,q6⟩
 ·refine⟨none,0,by rw[h0],ω,by unfold maxLen;omega,fun i u hi=>?_⟩;have:=(List.getElem?_eq_some_iff.1 hi).1;omega
 ·refine⟨_,cap,rfl,q3,q4,fun i u hi=>⟨g,rfl,?_⟩⟩;rw[←q6]at hi;have hi2:=hi;rw[List.getElem?_take_of_lt (by have:=(List.getElem?_eq_some_iff.1 hi).1;rw[JS]at this;omega)]at hi2;simpa[World.cell?,q2]using hi2
theorem J5(W:World){b k:Nat}(j:Nat)(u:Value)(h:b≠k):(W.setCell ⟨b,j,none⟩ u).heap[k]?=W.heap[k]?:=Below.heap_setCell _ _ _ _ (fun e=>h (by simpa using e.symm))
theorem Qc7(w:World)(b j:Nat)(u:Value):w.grownBy (w.setCell ⟨b,j,none⟩ u) (some b) :=
 ⟨rfl,rfl,rfl,by simp[World.setCell],fun k _ hk=>Below.heap_setCell _ _ _ _ (fun e=>hk (by simp[e]))⟩
theorem yh{W:World}{g:Nat}{v:Value}{T:TypeId}(h:W.heap[g]?=some (θ #[v] T (0,0))):W.cell? ⟨g,0,none⟩=some v:=by simp[World.cell?,h]
theorem Q0c{W:World}{g:Nat}{v:Value}{T:TypeId}(h:W.heap[g]?=some (θ #[v] T (0,0))):W.frozen? ⟨g,0,none⟩=false:=by simp[World.frozen?,h]
structure KI(w:World)(z:Nat)(ks:List Value)(W:World):Prop where
 box:∃v,W.heap[z]?=some (θ #[v] 32 (0,0))∧W.ownsRow (z+1) 3 1 v ks.length ks
 QF:Below w.heap.size w W
 le:w.heap.size≤z
section
variable {w W W':World}{z:Nat}{ks:List Value}
theorem KI.same(h:KI w z ks W)(hk:∀(k:Nat)(cs:Array Value)(T:TypeId)(fz:Nat×Nat),W.heap[k]?=some (θ cs T fz)→W'.heap[k]?=some (θ cs T fz))(hb:Below w.heap.size W W'):KI w z ks W':=by
 obtain⟨v,h1,h2⟩:=h.box;exact⟨⟨v,hk _ _ _ _ h1,Y2 h2 fun k cs fz e=>hk k cs _ fz e⟩,h.QF.trans hb,h.le⟩
theorem KI.lt(h:KI w z ks W):z<W.heap.size:=by
 obtain⟨v,h1,h2⟩:=h.box;exact(Array.getElem?_eq_some_iff.1 h1).1
theorem KI.later(h:KI w z ks W)(hb:Below W.heap.size W W'):KI w z ks W' :=
 h.same (fun k cs T fz e=>(hb.block k (Array.getElem?_eq_some_iff.1 e).1).trans e) (hb.mono (by have:=h.lt;have:=h.le;omega))
theorem KI.nc(h:KI w z ks W){row:Option Nat}(hg:W.grownBy W' row)(hr:∀r,row=some r→w.heap.size≤r∧∃o:Obj,W.heap[r]?=some o∧o.isCells=false):KI w z ks W' :=
 h.same (fun k cs T fz e=>(hg.block k (Array.getElem?_eq_some_iff.1 e).1 (fun e2=>by
  obtain⟨_,o,q1,q2⟩:=hr k e2.symm;rw[e]at q1;cases q1;cases q2)).trans e) ((Below.refl _ W).grown hg (by have:=h.lt;have:=h.le;omega) (fun k e=>(hr k e).1))
theorem KI.form(h:KI w z ks W):∃A c,W.heap[z]?=some (θ #[ς A ks.length c] 32 (0,0))∧W.ownsRow (z+1) 3 1 (ς A ks.length c) ks.length ks:=by
 obtain⟨v,h1,h2⟩:=h.box;obtain⟨A,c,rfl⟩:=Jy h2;exact⟨A,c,h1,h2⟩
theorem KI.push(h:KI w z ks W){v v' line:Value}(hc:W.heap[z]?=some (θ #[v] 32 (0,0)))(hg:(W.alloc (θ #[line] 3)).grownBy W' v.ownBlock)(hlt:∀k,v.ownBlock=some k→z+1≤k)
 (ho:W'.ownsRow (z+1) 3 1 v' (ks.length+1) (ks++[line])):W'.heap[z]?=some (θ #[v] 32 (0,0))∧KI w z (ks++[line]) (W'.setCell ⟨z,0,none⟩ v'):=by
 have hs:=h.lt;have hz:=h.le;have e1:W'.heap[z]?=some (θ #[v] 32 (0,0)):=(hg.block z (by simp;omega) (fun e2=>by have:=hlt z e2.symm;omega)).trans ((Lib.alloc_old W _ z hs).trans hc);refine⟨e1,⟨v',Z8 e1 0 _,?_⟩,?_,hz⟩
 ·rw[ZU,List.length_singleton];exact ho.kept (row:=some z) (Qc7 W' z 0 v') (.inr fun e=>by have:=(ho.lt z e).1;omega)
 ·exact(h.QF.trans (((Below.refl _ W).alloc ω _).grown hg (by simp;omega) (fun k e=>by have:=hlt k e;omega))).setCell (p:=⟨z,0,none⟩) hz _
end
theorem Qk0{W w2:World}{z i:Nat}{v line:Value}{ks:List Value}(ho:W.ownsRow (z+1) 3 1 v i ks)(hg:(W.alloc (θ #[line] 3)).grownBy w2 v.ownBlock){u:Value}:KeepsOthers W (w2.setCell ⟨z,0,none⟩ u) :=
 ((KeepsOthers.alloc W _).trans (KeepsOthers.of_grownBy hg fun j o e h=>by obtain⟨cs,fz,rfl⟩:=š (ho.alloc _) j o e h;rfl)).trans (KeepsOthers.setCell w2 _ _)
theorem Qry{W w2:World}{z i:Nat}{v line:Value}{ks:List Value}(ho:W.ownsRow (z+1) 3 1 v i ks)(hg:(W.alloc (θ #[line] 3)).grownBy w2 v.ownBlock){u v':Value}(hz:w2.heap[z]?=some (θ #[v'] 32 (0,0))):UD W (w2.setCell ⟨z,0,none⟩ u) :=
 ((UD.below (Qa W _)).trans (UD.grown hg fun r e cs T fz h=>by
   obtain⟨cs',fz',e2⟩:=š (ho.alloc _) r _ e h;injection e2 with _ e3 _;rw[e3];decide)).trans (UD.grown (Qc7 w2 z 0 u) fun r e cs T fz h=>by
   injection e with e;subst e;rw[hz]at h;injection h with h;injection h with _ e3 _;rw[←e3];decide)
def Q0e(Fin:World→Prop):Exit→Act→World→Prop
 | .normal,_,W=>Fin W
 |_,_,_=>False
theorem Qog{pre:List VU}{t:VU}(h:(pre++[t]).map VU.i=List.range (pre++[t]).length):pre.length=t.i:=by
 rw[List.map_append,ZU,List.length_singleton,List.range_succ]at h;have:=(List.append_inj' h rfl).2;simp at this;exact this.symm
theorem Qny{L:List Nd}{i:Nat}{nd:Nd}(h:L[i]?=some nd):iV ((kinds L).take (i+1))=iV ((kinds L).take i)++[ι γ nd.k]:=by
 have h2:(kinds L)[i]?=some nd.k:=by simp[kinds,h]
 rw[List.take_add_one,h2];simp[iV]
theorem Qb0(k:Int)(x y:ByteArray)(A:Option Addr)(n C:Nat)(c:F)(w:World)(hbig:c.size≤100000)(hf:Fs w (Lo w.heap.size) (ς A n C) c) :
 Calls prog 36 #[ξ #[ι γ k,σ x,σ y,ς A n C]] w fun e w'=>Below w.heap.size w w'∧∃v,e=ρ v∧w'.ownsRow w.heap.size 3 1 v (iV (Zy (one k x y c))).length (iV (Zy (one k x y c))):=by
 suffices h:CallsIn Fence.wide 5 prog 36 #[ξ #[ι γ k,σ x,σ y,ς A n C]] w (fun e w'=>Below w.heap.size w w'∧∃v,e=ρ v∧w'.ownsRow w.heap.size 3 1 v (iV (Zy (one k x y c))).length (iV (Zy (one k x y c))))from callsIn_wide.1 h
 have gp:nodes (one k x y c)=⟨k,x,y,c⟩::nodes c:=by simp[one,nodes]
 obtain⟨L,hL⟩:=Mem.QD ((⟨k,x,y,c⟩::nodes c:List Nd));have Ê:L.length=c.size+1:=by rw[←hL,List.length_cons,Qj]
 have cY:Zy (one k x y c)=kinds L:=by unfold Zy;rw[gp,hL]
 rw[cY];have b2:=Qt w (θ #[ι γ k,σ x,σ y,ς A n C] 24) (θ #[ς none 0 0] 32);have KB:=QA ((Vc w k x y (ς A n C)).below (Qa (w.alloc (θ #[ι γ k,σ x,σ y,ς A n C] 24)) (θ #[ς none 0 0] 32)) ψ);have HAl:=QA (Qwy k x y A n C c _ hbig (hf.later b2));have EP:Hid (KI w (w.heap.size+1) [] ((w.alloc (θ #[ι γ k,σ x,σ y,ς A n C] 24)).alloc (θ #[ς none 0 0] 32))):=by
  refine⟨⟨ς none 0 0,?_,World.ownsRow_nil _ _ _ _⟩,b2,ω⟩;have e:w.heap.size+1=(w.alloc (θ #[ι γ k,σ x,σ y,ς A n C] 24)).heap.size:=ψ
  rw[e];exact heap_alloc_new _ _
 obtain⟨z,hz⟩:=Mem.QD (w.heap.size+1);obtain⟨p0,p1,p2,p3⟩:=KB.out.cells;have HLm:=QA Ê;have HL:=QA hL;have Ty:=QA hbig;clear hf b2 gp Ê cY hbig;refine callsIn_of_wp_marks func36 rfl trivial ?_ rfl;simp only[ntmps36,List.size_toArray,List.length_cons,List.length_nil,Nat.reduceAdd,Nat.reduceSub,Array.replicate_succ,Array.replicate_zero,List.push_toArray,List.append_toArray,List.nil_append,List.cons_append]
 gi_wp2
 refine⟨trivial,(callsIn_wide.2 HAl.out).mono ?_⟩;rintro e wA ⟨Oo,g,A1,n1,C1,rfl,Ol,JF,VX⟩;have QO:=QA (EP.out.later Oo);have hwA:w.heap.size≤wA.heap.size:=QO.out.QF.size;clear p0 p1 p2 p3 HAl KB EP;rw[hz]at QO
 gi_wp2
 refine Qkx (n:=5) ω (gf:=75) (lb := #[π (some ⟨g,0,none⟩)]) rfl (enters_of func75 χ rfl)
  (Ql5 4 ω g k x y A1 n1 C1 c Ty.out wA JF (VX.more fun b hb=>hb.2)) (fun h k=>h.trans k) (fun W l o o' h1 h2 h3 h4=>UD.put W l o o' h2 h3) (fun _=>rfl)
  (fun pre W=>KI w z (iV ((kinds L).take pre.length)) W)
  (fun _ _ _=>False) (fun W=>KI w z (iV (kinds L)) W)
  (fun s X Y row hs hg hr=>hs.nc hg fun r e=>⟨by have:=(hr r e).1;omega,(hr r e).2⟩)
  (fun _ _ _ _ _ hs _ _=>hs)
  QO.out
  (fun t b W=>bK L t W∧W.heap[b]?=some (θ #[ι γ t.k,σ t.x,σ t.y,ς t.A t.n t.C] 24 (0,0)))
  (fun t b _ X Y row hs hg hr=>⟨hs.1,(grownBy_keeps_cells hg (fun r e=>(hr r e).2) hs.2 rfl).trans hs.2⟩)
  (fun ys W hS hi=>by
   have hl:=congrArg List.length hS;rw[List.length_map,List.length_range]at hl;rw[hl,List.take_of_length_le (by rw[Uv,HLm.out];exact Nat.le_refl _)]at hi;exact hi)
  (fun c pre W _ hi=>hi.elim)
  ?round ?rest
 case round =>
  rintro⟨i,kk,xx,yy,sa,sn,sC⟩ b;dsimp only[po];apply Exists.intro;refine⟨?_,?_⟩
  ·intro l pre W K hWb hi hR hsp hlt hK;have PV:=Qa W (θ #[ι γ kk,σ xx,σ yy,ς sa sn sC] 24);have UJ:(W.alloc (θ #[ι γ kk,σ xx,σ yy,ς sa sn sC] 24)).heap[W.heap.size]?=_:=heap_alloc_new W _;rw[HL.out]at hR;have HK:=QA (hK _ (KeepsFrom.of_grownBy (Jh PV none) (fun j e=>by cases e)) (UD.below PV) (hi.later PV) ⟨hR,by rw[←hWb];exact UJ⟩);clear hK hi hR hsp hlt PV UJ
   gi_wp2
   exact HK.out
  ·intro l pre W0 hi gH hsp hlt;obtain⟨⟨nd,q1,q2⟩,hbk⟩:=gH;dsimp only at q1 q2 hbk;have hpl:pre.length=i:=Qog hsp;have him:i<L.length:=(List.getElem?_eq_some_iff.1 q1).1;have Q21:i≤100000:=by have:=HLm.out;have:=Ty.out;omega
   have hlk:(iV ((kinds L).take i)).length=i:=by rw[Xh,JS,Uv];omega
   rw[hpl]at hi;obtain⟨A5,c5,AU,CG⟩:=hi.form;rw[hlk]at AU CG;have r0:=yh AU;have c0:W0.cell? ⟨b,0,none⟩=some (ι γ kk):=by simp[World.cell?,hbk]
   have hzW:=hi.lt;have HP:=QA hi;have ag:=QA AU;have OS:=QA CG;have Ba:=QA hlk
   have XB:Hid (∀W',KeepsOthers W0 W'→UD W0 W'→KI w z (iV ((kinds L).take i)++[ι γ kk]) W'→KeepsFrom wA.heap.size W0 W'∧UD W0 W'∧KI w z (iV ((kinds L).take (pre++[(⟨i,kk,xx,yy,sa,sn,sC⟩:VU)]).length)) W'):=fun W' h1 h2 h3=>by
    refine⟨h1.from _,h2,?_⟩;rw[ZU,List.length_singleton,hpl,Qny q1,q2];exact h3
   obtain⟨Fin,WW⟩:∃Fin:World→Prop,(fun W'=>KeepsFrom wA.heap.size W0 W'∧UD W0 W'∧KI w z (iV ((kinds L).take (pre++[(⟨i,kk,xx,yy,sa,sn,sC⟩:VU)]).length)) W')=Fin:=⟨_,rfl⟩;have SG:Hid (∀W',KeepsOthers W0 W'→UD W0 W'→KI w z (iV ((kinds L).take i)++[ι γ kk]) W'→Fin W'):=fun W' h1 h2 h3=>by rw[←WW];exact XB.out W' h1 h2 h3
   refine wpIn_mono (Q:=Q0e Fin) ?_ (fun e a3 W3 hp=>by
    subst WW;cases e with
    |normal=>exact hp
    |ret=>exact hp.elim
    |exit id=>exact hp.elim
    |goto t=>exact hp.elim
    |panic ch=>exact hp.elim
    |outgrown=>exact hp.elim)
   clear WW XB hi AU CG q1 q2 hbk hpl hlk him;generalize iV ((kinds L).take i)=ks at *
   gi_wp2_with (gi_at_builtin;refine Qpz W0 rfl _ _ rfl (z+1) (ς A5 i c5) i ks (ι γ kk) rfl OS.out rfl W0.heap.size rfl rfl ω hzW ?_;intro v' w2 hown' hgrow;have hp:=HP.out.push ag.out hgrow (fun q e=>(OS.out.lt q e).1) (by rw[Ba.out];exact hown');have Q3a:=yh hp.1;have Q25:=Q0c hp.1;have HX:=QA (SG.out _ (Qk0 OS.out hgrow) (Qry OS.out hgrow hp.1) hp.2);obtain⟨gq,cq,rfl⟩:=Jy hown';clear hown' hgrow hp)
   exact HX.out
 case rest =>
  intro D W hD hJ hK;have hn:=KI.nc hJ (grownBy_putObj' W D (.deferred none)) (fun r e=>by cases e;exact⟨ω,_,hK,rfl⟩);obtain⟨v,JF,_⟩:=hJ.box;have hc:=yh JF;have hD':(W.putObj D (.deferred none)).heap[z]?=some (θ #[v] 32 (0,0)):=(World.putObj_heap_other (fun e=>by subst e;rw[hK]at JF;cases JF)).trans JF;obtain⟨v',hc',hs⟩:=hn.box;have e1:=yh hc';rw[yh hD']at e1;cases e1
  replace hs:=ib hs (base':=w.heap.size) ω;have HE:=QA hn;have HS:=QA hs;clear hJ hn hs hD' JF hc'
  gi_wp2
  refine⟨ψ,.inl ⟨_,_,rfl,run_takeDeferred hK,?_⟩⟩;refine⟨_,results_tmp rfl _ _ _,?_⟩;exact⟨HE.out.QF,_,rfl,HS.out⟩
end Match
namespace Match
open Mem Tree Shape
structure KV(w0:World)(u0 u2:Value)(K0 K1:List Value)(L:Nat→Bool)(x:Nat→Value)(W:World):Prop where
 QF:Below w0.heap.size w0 W
 e0:L 0=true→x 0=u0
 e1:L 1=true→W.ownsRow w0.heap.size 3 1 (x 1) K0.length K0
 e2:L 2=true→x 2=u2
 e3:L 3=true→W.ownsRow w0.heap.size 3 1 (x 3) K1.length K1
 e4:L 4=true→x 4=ξ #[x 1,x 3]∧L 1=true∧L 3=true
 e5:L 5=true→∃g,x 5=π (some ⟨g,0,none⟩)∧w0.heap.size≤g∧∃v1 v2,W.heap[g]?=some (θ #[v1,v2] 58 (0,0))
 e6:L 6=true→(∃g,x 5=π (some ⟨g,0,none⟩)∧W.heap[g]?=some (θ #[x 1,x 3] 58 (0,0)))∧L 4=true∧L 5=true
section
variable {w0 W W':World}{u0 u2:Value}{K0 K1:List Value}{L:Nat→Bool}{x:Nat→Value}
theorem KV.start:KV w0 u0 u2 K0 K1 (fun _=>false) x w0.drew :=
 ⟨⟨rfl,rfl,rfl,Nat.le_refl _,fun _ _=>rfl⟩,fun h=>(by cases h),fun h=>(by cases h),fun h=>(by cases h),fun h=>(by cases h),fun h=>(by cases h),fun h=>(by cases h),fun h=>(by cases h)⟩
theorem KV.later(h:KV w0 u0 u2 K0 K1 L x W)(hb:Below W.heap.size W W'):KV w0 u0 u2 K0 K1 L x W':=by
 have hk:∀(k:Nat)(cs:Array Value)(E:TypeId)(fz:Nat×Nat),W.heap[k]?=some (θ cs E fz)→W'.heap[k]?=some (θ cs E fz):=fun k cs E fz e=>(hb.block k (Array.getElem?_eq_some_iff.1 e).1).trans e
 refine⟨h.QF.trans (hb.mono h.QF.size),h.e0,fun q=>Y2 (h.e1 q) fun k cs fz e=>hk k cs _ fz e,h.e2,fun q=>Y2 (h.e3 q) fun k cs fz e=>hk k cs _ fz e,h.e4,fun q=>?_,fun q=>?_⟩
 ·obtain⟨g,q1,q2,v1,v2,q3⟩:=h.e5 q;exact⟨g,q1,q2,v1,v2,hk _ _ _ _ q3⟩
 ·obtain⟨⟨g,q1,q2⟩,q3⟩:=h.e6 q;exact⟨⟨g,q1,hk _ _ _ _ q2⟩,q3⟩
theorem KV.Fa(h:KV w0 u0 u2 K0 K1 L x W):KV w0 u0 u2 K0 K1 (Zh L 0) (Qq x 0 u0) W:=by
 refine⟨h.QF,fun _=>rfl,?_,?_,?_,?_,?_,?_⟩ <;> simp only[Zh,Qq] <;> intro q
 ·exact h.e1 q
 ·exact h.e2 q
 ·exact h.e3 q
 ·exact h.e4 q
 ·exact h.e5 q
 ·exact h.e6 q
theorem KV.Nc(h:KV w0 u0 u2 K0 K1 L x W):KV w0 u0 u2 K0 K1 (Zh L 2) (Qq x 2 u2) W:=by
 refine⟨h.QF,?_,?_,fun _=>rfl,?_,?_,?_,?_⟩ <;> simp only[Zh,Qq] <;> intro q
 ·exact h.e0 q
 ·exact h.e1 q
 ·exact h.e3 q
 ·exact h.e4 q
 ·exact h.e5 q
 ·exact h.e6 q
theorem KV.EW{v:Value}(h:KV w0 u0 u2 K0 K1 L x W)(hL:L 1=false)(hv:W.ownsRow w0.heap.size 3 1 v K0.length K0):KV w0 u0 u2 K0 K1 (Zh L 1) (Qq x 1 v) W:=by
 refine⟨h.QF,?_,fun _=>hv,?_,?_,?_,?_,?_⟩ <;> simp only[Zh,Qq] <;> intro q
 ·exact h.e0 q
 ·exact h.e2 q
 ·exact h.e3 q
 ·have:=(h.e4 q).2.1;rw[hL]at this;cases this
 ·exact h.e5 q
 ·have:=(h.e4 (h.e6 q).2.1).2.1;rw[hL]at this;cases this
theorem KV.BZ{v:Value}(h:KV w0 u0 u2 K0 K1 L x W)(hL:L 3=false)(hv:W.ownsRow w0.heap.size 3 1 v K1.length K1):KV w0 u0 u2 K0 K1 (Zh L 3) (Qq x 3 v) W:=by
 refine⟨h.QF,?_,?_,?_,fun _=>hv,?_,?_,?_⟩ <;> simp only[Zh,Qq] <;> intro q
 ·exact h.e0 q
 ·exact h.e1 q
 ·exact h.e2 q
 ·have:=(h.e4 q).2.2;rw[hL]at this;cases this
 ·exact h.e5 q
 ·have:=(h.e4 (h.e6 q).2.1).2.2;rw[hL]at this;cases this
theorem KV.KD(h:KV w0 u0 u2 K0 K1 L x W)(h1:L 1=true)(h3:L 3=true):KV w0 u0 u2 K0 K1 (Zh L 4) (Qq x 4 (ξ #[x 1,x 3])) W:=by
 refine⟨h.QF,?_,?_,?_,?_,?_,?_,?_⟩ <;> simp only[Zh,Qq] <;> intro q
 ·exact h.e0 q
 ·exact h.e1 q
 ·exact h.e2 q
 ·exact h.e3 q
 ·exact⟨rfl,h1,h3⟩
 ·exact h.e5 q
 ·exact⟨(h.e6 q).1,rfl,(h.e6 q).2.2⟩
theorem KV.BX{g:Nat}(h:KV w0 u0 u2 K0 K1 L x W)(hL:L 5=false)(hg:w0.heap.size≤g){v1 v2:Value}(hb:W.heap[g]?=some (θ #[v1,v2] 58 (0,0))):KV w0 u0 u2 K0 K1 (Zh L 5) (Qq x 5 (π (some ⟨g,0,none⟩))) W:=by
 refine⟨h.QF,?_,?_,?_,?_,?_,?_,?_⟩ <;> simp only[Zh,Qq] <;> intro q
 ·exact h.e0 q
 ·exact h.e1 q
 ·exact h.e2 q
 ·exact h.e3 q
 ·exact h.e4 q
 ·exact⟨g,rfl,hg,v1,v2,hb⟩
 ·have:=(h.e6 q).2.2;rw[hL]at this;cases this
theorem KV.BW{g:Nat}{v:Value}(h:KV w0 u0 u2 K0 K1 L x W)(h4:L 4=true)(h5:L 5=true)(hx:x 5=π (some ⟨g,0,none⟩))(hg:w0.heap.size≤g)(hk:∀k,k≠g→W'.heap[k]?=W.heap[k]?)(hw:W'.heap[g]?=some (θ #[x 1,x 3] 58 (0,0)))(ho:∃v1 v2,W.heap[g]?=some (θ #[v1,v2] 58 (0,0)))(hb:Below w0.heap.size W W'):KV w0 u0 u2 K0 K1 (Zh L 6) (Qq x 6 v) W':=by
 obtain⟨v1,v2,ho⟩:=ho;have hk2:∀(k:Nat)(cs:Array Value)(fz:Nat×Nat),W.heap[k]?=some (θ cs 3 fz)→W'.heap[k]?=some (θ cs 3 fz):=fun k cs fz e=>(hk k (fun q=>by subst q;rw[ho]at e;cases e)).trans e
 refine⟨h.QF.trans hb,?_,?_,?_,?_,?_,?_,?_⟩ <;> simp only[Zh,Qq] <;> intro q
 ·exact h.e0 q
 ·exact Y2 (h.e1 q) hk2
 ·exact h.e2 q
 ·exact Y2 (h.e3 q) hk2
 ·exact h.e4 q
 ·exact⟨g,hx,hg,_,_,hw⟩
 ·exact⟨⟨g,hx,hw⟩,h4,h5⟩
end
theorem Qdb(k:Int)(x y:ByteArray)(A:Option Addr)(n C:Nat)(c:F)(k':Int)(x' y':ByteArray)(A':Option Addr)(n' C':Nat)(c':F)(Al:Option Addr)(Cl:Nat)(L:List P2)(w:World)(hf:Fs w (Lo w.heap.size) (ς A n C) c)(hf':Fs w (Lo w.heap.size) (ς A' n' C') c')
 (hl:Qm w (Lo w.heap.size) (ς Al L.length Cl) L) (hc:c.size≤100000) (hc':c'.size≤100000) (hL:L.length≤1000000) :
 Calls Tryz.prog 21 #[ξ #[ι γ k,σ x,σ y,ς A n C],ξ #[ι γ k',σ x',σ y',ς A' n' C'],ς Al L.length Cl] w fun e w'=>e=ρ (τ (Z9 (Zy (one k x y c)) (Zy (one k' x' y' c')) L))∧Below w.heap.size w w':=by
 obtain⟨KX,lO⟩:∃K,Zy (one k x y c)=K:=⟨_,rfl⟩;obtain⟨KY,lN⟩:∃K,Zy (one k' x' y' c')=K:=⟨_,rfl⟩;obtain⟨NX,dv⟩:∃N,KX.length=N:=⟨_,rfl⟩;obtain⟨NY,dt⟩:∃N,KY.length=N:=⟨_,rfl⟩;obtain⟨M,hM⟩:=Mem.QD (L.length);have hx:NX≤100001:=by rw[←dv,←lO];unfold Zy;rw[Uv,Qj,Q4];omega
 have hy:NY≤100001:=by rw[←dt,←lN];unfold Zy;rw[Uv,Qj,Q4];omega
 rw[lO,lN];have sB:=QA lO;have Pq:=QA lN;have SB:=QA dv;have BG:=QA dt;have HM:=QA hM;rw[hM]at hl hL⊢;have b1:=Qz w (θ #[ι γ k,σ x,σ y,ς A n C] 24);have q:=J6 w k x y (ς A n C);have b2:=Qz (w.alloc (θ #[ι γ k,σ x,σ y,ς A n C] 24)) (θ #[ι γ k',σ x',σ y',ς A' n' C'] 24);have q':=J6 (w.alloc (θ #[ι γ k,σ x,σ y,ς A n C] 24)) k' x' y' (ς A' n' C');have e1:(w.alloc (θ #[ι γ k,σ x,σ y,ς A n C] 24)).heap.size=w.heap.size+1:=ψ
 rw[e1]at q';have HB:=QA (b1.trans (b2.mono b1.size));have Po:Hid (∀W,Below ((w.alloc (θ #[ι γ k,σ x,σ y,ς A n C] 24)).alloc (θ #[ι γ k',σ x',σ y',ς A' n' C'] 24)).heap.size ((w.alloc (θ #[ι γ k,σ x,σ y,ς A n C] 24)).alloc (θ #[ι γ k',σ x',σ y',ς A' n' C'] 24)) W→_):=fun W hW=>q W (b2.trans (hW.mono b2.size))
 have Pn:=QA q';have LK:=QA ((hf.later b1).later b2);have XY:=QA ((hf'.later b1).later b2);have HL:=QA ((hl.later b1).later b2);have HC:=QA (And.intro hc hc');have Rc:=QA hL;have WU:M≤1000000:=hL;obtain⟨w2,hw2⟩:∃w2,((w.alloc (θ #[ι γ k,σ x,σ y,ς A n C] 24)).alloc (θ #[ι γ k',σ x',σ y',ς A' n' C'] 24))=w2:=⟨_,rfl⟩;rw[hw2]at HB Po Pn LK XY HL;clear lO lN dv dt hM hf hf' hl hc hc' hL b1 q b2 q' e1;go_enter Tryz.func21,Tryz.ntmps21;cases L with
 |nil=>obtain rfl:M=0:=HM.out.symm;exact c23
 |cons p r =>
  obtain⟨x0,y0⟩:=p;obtain⟨b,off,rfl,_,c0,c1⟩:=Qm.at_ HL.out (i:=0) (p:=(x0,y0)) rfl;simp only[Nat.zero_mul,Nat.add_zero]at c0 c1;have M9:0<M:=by rw[←HM.out];simp
  have dz:((M:Int)==0)=false:=by simp;omega
  have hpe:=Ĩ x0 y0 0 0 w2;by_cases hp0:x0=0∧y0=0
  case neg =>
   have hb:((x0==0)&&(y0==0))=false:=by
    cases h:((x0==0)&&(y0==0))with
    |false=>rfl
    |true=>rw[Bool.and_eq_true,beq_iff_eq,beq_iff_eq]at h;exact absurd h hp0
   rw[hb]at hpe;have hv:Z9 KX KY ((x0,y0)::r)=false:=by
    have:((x0,y0):P2)≠(0,0):=fun e=>hp0 (by injection e with e1 e2;exact⟨e1,e2⟩)
    simp[Z9,this]
   rw[hv];clear hb hv hp0;exact c23
  obtain⟨rfl,rfl⟩:=hp0;rw[show((0:Int)==0&&(0:Int)==0)=true from rfl]at hpe;obtain⟨R,hR⟩:=Mem.QD (X7 KX KY (-1) [] ((0,0)::r));have P':=QA hR;have HE:Hid (Z9 KX KY ((0,0)::r)=R):=by show _=_;rw[←hR];rfl
  obtain⟨L,S4⟩:=Mem.QD (((0,0)::r:List P2));rw[S4]at HL HM P' HE⊢;clear hR S4
  go_upto_region 3 with(fail)
  clear hpe c0 c1 M9 dz hw2;refine Z3 (KV w2 (ξ #[ι γ k,σ x,σ y,ς A n C]) (ξ #[ι γ k',σ x',σ y',ς A' n' C']) (iV KX) (iV KY)) χ δ χ (fun x=>KV.start) ?steps ?done
  case steps =>
   intro L xv W' hI hcl a ha;simp only[Qi]at ha;simp only[ZC,ZA,QZ,Nat.zero_add,Nat.reduceAdd]at ha;subst ha;refine⟨?s0,?s1,?s2,?s3,?s4,?s5,?s6,trivial⟩;all_goals intro hL hd K hK
   all_goals(try simp only[Act.put,ZC,ZA,QZ]at hK)
   case s0=>clear hd;refine(if_pos (by rfl)).mpr ?_;obtain⟨p0,p1,p2,p3⟩:=Po.out W' hI.QF;go_simp;exact hK.out _ _ hI.Fa
   case s1=>have hx0:xv 0=ξ #[ι γ k,σ x,σ y,ς A n C]:=hI.e0 (hd 0 χ);clear hd;rw[hx0]at hK⊢;refine(if_pos (by rfl)).mpr ?_;have hc:=Qb0 k x y A n C c W' HC.out.1 (LK.out.later hI.QF);rw[sB.out]at hc;go_simp;go_at_call 36;refine hc.mono ?_;rintro e W3 ⟨hb,v,rfl,ho⟩;exact hK.out _ _ ((hI.later hb).EW hL (ib ho hI.QF.size))
   case s2=>clear hd;refine(if_pos (by rfl)).mpr ?_;obtain⟨p0,p1,p2,p3⟩:=Pn.out W' hI.QF;go_simp;exact hK.out _ _ hI.Nc
   case s3=>have hx2:xv 2=ξ #[ι γ k',σ x',σ y',ς A' n' C']:=hI.e2 (hd 2 χ);clear hd;rw[hx2]at hK⊢;refine(if_pos (by rfl)).mpr ?_;have hc:=Qb0 k' x' y' A' n' C' c' W' HC.out.2 (XY.out.later hI.QF);rw[Pq.out]at hc;go_simp;go_at_call 36;refine hc.mono ?_;rintro e W3 ⟨hb,v,rfl,ho⟩;exact hK.out _ _ ((hI.later hb).BZ hL (ib ho hI.QF.size))
   case s4=>have h1:=hd 1 χ;have h3:=hd 3 χ;clear hd;obtain⟨A5,C5,e5⟩:=Jy (hI.e1 h1);obtain⟨A6,C6,e6⟩:=Jy (hI.e3 h3);have hq:=hI.KD h1 h3;rw[e5,e6]at hq⊢;refine(if_pos (by rfl)).mpr ?_;go_simp;rw[e5,e6]at hK;exact hK.out _ _ hq
   case s5=>clear hd;refine(if_pos (by rfl)).mpr ?_;go_simp;exact hK.out _ _ ((hI.later (Qz W' _)).BX hL hI.QF.size (heap_alloc_new W' _))
   case s6 =>
    have h4:=hd 4 χ;have h5:=hd 5 χ;clear hd;have JJ:=(hI.e4 h4).1;obtain⟨g,JB,hg,v1,v2,hbl⟩:=hI.e5 h5;obtain⟨A5,C5,e5⟩:=Jy (hI.e1 (hI.e4 h4).2.1);obtain⟨A6,C6,e6⟩:=Jy (hI.e3 (hI.e4 h4).2.2);rw[JJ,JB]at hK⊢;rw[e5,e6]at hK⊢;refine(if_pos (by rfl)).mpr ?_;have f0:W'.frozen? ⟨g,0,none⟩=false:=by simp[World.frozen?,hbl]
    have f1:W'.frozen? ⟨g,1,none⟩=false:=by simp[World.frozen?,hbl]
    have c0:W'.cell? ⟨g,0,none⟩=some v1:=by simp[World.cell?,hbl]
    have c1:W'.cell? ⟨g,1,none⟩=some v2:=by simp[World.cell?,hbl]
    go_simp;have s1:=Z8 hbl 0 (ς A5 (iV KX).length C5);have s2:=Z8 s1 1 (ς A6 (iV KY).length C6);simp only[ZC,ZA,QZ]at s2;exact hK.out undef _ (hI.BW h4 h5 JB hg (fun k hk=>(J5 _ 1 _ (Ne.symm hk)).trans (J5 _ 0 _ (Ne.symm hk))) (by rw[e5,e6];exact s2) ⟨v1,v2,hbl⟩ (((Below.refl _ W').setCell (p:=⟨g,0,none⟩) hg _).setCell (p:=⟨g,1,none⟩) hg _))
  case done =>
   intro L' xv W hI hall a ha;obtain⟨⟨g,JB,hg⟩,h4,h5⟩:=hI.e6 (hall 6 δ);have r1:=hI.e1 (hall 1 δ);have r3:=hI.e3 (hall 3 δ);obtain⟨A0,C0,hx1,hn0,hm0,VN⟩:=Qfk r1;obtain⟨A1,C1,hx3,Ri,EJ,hr1⟩:=Qfk r3;rw[hx1,hx3]at hg;have e0:(iV KX).length=NX:=by rw[Xh];exact SB.out
   have e1:(iV KY).length=NY:=by rw[Xh];exact BG.out
   rw[e0,e1]at hg;rw[e1]at Ri;simp only[Qi]at ha;simp only[ZC,ZA,QZ,Nat.zero_add,Nat.reduceAdd]at ha;subst ha;rw[JB];have ue:Hid (W.cell? ⟨g,0,none⟩=some (ς A0 NX C0)):=by show _=_;simp[World.cell?,hg]
   have aD:Hid (W.cell? ⟨g,1,none⟩=some (ς A1 NY C1)):=by show _=_;simp[World.cell?,hg]
   have XQ:=QA VN;have Tt:=QA hr1;have YR:=QA hI.QF;have Rq:=QA (HL.out.later hI.QF);clear hI hall h4 h5 r1 r3 hx1 hx3 hn0 hm0 Ri EJ VN hr1 hg e0 e1 JB;obtain⟨w0,hw0⟩:∃w0,w0=W:=⟨_,rfl⟩;subst hw0;have hmk:=Ń NY ω w0;have b3:=Qz w0 (θ (bV (List.replicate NY false)).toArray 4);have HK:Hid (ZY (w0.alloc (θ (bV (List.replicate NY false)).toArray 4)) w0.heap.size 4 (bV (V7 NY []))):=by rw[Ų];exact heap_alloc_new w0 _
   have VG:=QA b3;clear b3;obtain⟨gu,cj⟩:∃g,w0.heap.size=g:=⟨_,rfl⟩;have F5:=QA cj;rw[cj]at HK;have q1:=aD.out;go_wp2;clear hmk q1;obtain⟨w3,hw3⟩:=Mem.QD (w0.alloc (θ (bV (List.replicate NY false)).toArray 4));rw[hw3]at HK VG⊢;clear hw3 cj
   go_loopw [9,35] (fun s9 s35 W=>∃(i:Nat)(last:Int)(used:List Int),i≤M∧-1≤last∧s35=ι γ (i:Int)∧s9=ι γ last∧Hid (ZY W gu 4 (bV (V7 NY used)))∧Hid (X7 KX KY last used (L.drop i)=R)∧Hid (Below w0.heap.size w0 W)) (fun _ s _=>M-(intOf s).toNat)
   case atStart=>exact⟨0,-1,[],Nat.zero_le _,Int.le_refl _,rfl,rfl,HK,P',VG⟩
   case round =>
    clear HK VG P';obtain⟨i,last,used,hi,Wt,rfl,rfl,HK,P',VG⟩:=hrel;by_cases hlt:i<M
    ·have hlt':(i:Int)<(M:Int):=ω
     have KZ:(0:Int)≤(i:Int):=ω
     have XW:=QA hlt;obtain⟨⟨x,y⟩,hp⟩:∃p,L[i]?=some p:=⟨_,QN (by rw[HM.out];exact hlt)⟩;have HD:Hid (X7 KX KY last used ((x,y)::L.drop (i+1))=R):=by have:=P'.out;rwa[drop_at hp]at this
     obtain⟨b',Ni,e',_,c0,c1⟩:=Qm.at_ (Rq.out.later VG.out) hp;injection e' with e';injection e' with e1 e2;subst e1;subst e2;simp only at c0 c1;clear hp P'
     go_upto_region 9 with(fail)
     have b5:=Qz wr (θ #[ι γ x,ι γ y] 40);have z0:=Vk wr [ι γ x,ι γ y] 40 0 _ rfl;have z1:=Vk wr [ι γ x,ι γ y] 40 1 _ rfl;have z0:(wr.alloc (θ #[ι γ x,ι γ y] 40)).cell? ⟨wr.heap.size,0,none⟩=some (ι γ x):=z0;have z1:(wr.alloc (θ #[ι γ x,ι γ y] 40)).cell? ⟨wr.heap.size,1,none⟩=some (ι γ y):=z1;have jl:=QA (HK.out.keep b5);have LO:=VO VG b5;clear b5 HK VG c0 c1
     go_quiet (fail)
     have uM:Hid (ZY ((wr.alloc (θ #[ι γ x,ι γ y] 40)).drewN nq) gu 4 (bV (V7 NY used))):=jl.out;have KF:Hid (Below w0.heap.size w0 ((wr.alloc (θ #[ι γ x,ι γ y] 40)).drewN nq)):=pO LO.out _;clear jl LO z0 z1;generalize(wr.alloc (θ #[ι γ x,ι γ y] 40)).drewN nq=w4 at *;have q0:=(KF.out.cell (p:=⟨g,0,none⟩) (VJ _ _ ue.out)).trans ue.out;have q1:=(KF.out.cell (p:=⟨g,1,none⟩) (VJ _ _ aD.out)).trans aD.out;have TY:=QA (HB.out.trans ((YR.out.trans (KF.out.mono YR.out.size)).mono HB.out.size));by_cases t1:x≤last
     ·skip
      have HV:Hid (Z9 KX KY L=false):=by
       show _=_;rw[HE.out,←HD.out,Gn];cases hpk:Kj KX KY last used (x,y)with
       |false=>rfl
       |true=>exact c47
      exact c85
     by_cases t2:(NX:Int)≤x
     ·skip
      have HV:Hid (Z9 KX KY L=false):=by
       show _=_;rw[HE.out,←HD.out,Gn];cases hpk:Kj KX KY last used (x,y)with
       |false=>rfl
       |true=>exact c47
      exact c85
     by_cases t3:y<0
     ·skip
      have HV:Hid (Z9 KX KY L=false):=by
       show _=_;rw[HE.out,←HD.out,Gn];cases hpk:Kj KX KY last used (x,y)with
       |false=>rfl
       |true=>exact c47
      exact c85
     by_cases t4:(NY:Int)≤y
     ·skip
      have HV:Hid (Z9 KX KY L=false):=by
       show _=_;rw[HE.out,←HD.out,Gn];cases hpk:Kj KX KY last used (x,y)with
       |false=>rfl
       |true=>exact c47
      exact c85
     obtain⟨xn,rfl⟩:∃xn:Nat,x=(xn:Int):=⟨x.toNat,ω⟩;obtain⟨yn,rfl⟩:∃yn:Nat,y=(yn:Int):=⟨y.toNat,ω⟩;have SQ:xn<NX:=ω
     have Fh:yn<NY:=ω
     have yP:=QA SQ;have Ig:=QA Fh;have GF:Hid (last<(xn:Int)):=by show _<_;omega
     have nG:(0:Int)≤(yn:Int):=ω
     have nR:(0:Int)≤(xn:Int):=ω
     have ke:(yn:Int)<(NY:Int):=ω
     have SP:(xn:Int)<(NX:Int):=ω
     have xG:=uM.out.at_ (N5 (G3 (used:=used) Fh));obtain⟨uc,nV⟩:=Mem.QD (used.contains (yn:Int));rw[nV]at xG;have T5:=QA nV;have t2':¬NX≤xn:=ω
     have t4':¬NY≤yn:=ω
     clear nV SQ Fh
     go_upto_region 12 with(fail)
     cases uc with
     |true =>
      have HV:Hid (Z9 KX KY L=false):=by
       show _=_;rw[HE.out,←HD.out,Gn];cases hpk:Kj KX KY last used ((xn:Int),(yn:Int))with
       |false=>rfl
       |true=>obtain⟨h1,h2,h3,h4,h5,h6⟩:=Vt.1 hpk;rw[T5.out]at h5;cases h5
      go_quiet (fail)
      exact c146
     |false =>
      obtain⟨kx,hnx⟩:∃nd,KX[xn]?=some nd:=⟨_,QN (by rw[SB.out];exact yP.out)⟩;obtain⟨ky,Oc⟩:∃nd,KY[yn]?=some nd:=⟨_,QN (by rw[BG.out];exact Ig.out)⟩;obtain⟨g0,WZ,WH⟩:=XQ.out xn _ (bJ hnx);obtain⟨g1,hA1,WG⟩:=Tt.out yn _ (bJ Oc);subst WZ;subst hA1;replace WH:=(KF.out.cell (p:=⟨g0,xn,none⟩) (VJ _ _ WH)).trans WH;replace WG:=(KF.out.cell (p:=⟨g1,yn,none⟩) (VJ _ _ WG)).trans WG;have N0:Hid (KX.getD xn 0=kx):=by show _=_;simp[List.getD,hnx]
      have T9:Hid (KY.getD yn 0=ky):=by show _=_;simp[List.getD,Oc]
      clear hnx Oc;by_cases hk:kx=ky
      ·subst hk;have d6:(kx==kx)=true:=ψ
       have d7:(kx != kx)=false:=ψ
       have MD:Hid (X7 KX KY (xn:Int) ((yn:Int)::used) (L.drop (i+1))=R):=by have h:=HD.out;have hp:Kj KX KY last used ((xn:Int),(yn:Int))=true:=Vt.2 ⟨GF.out,by rw[SB.out];exact SP,nG,by rw[BG.out];exact ke,T5.out,by rw[Int.toNat_natCast,Int.toNat_natCast,N0.out,T9.out]⟩;show _=_;rw[←h];show _=(_&&_);rw[hp,Bool.true_and]
       go_quiet (fail)
       have jk:Hid (ZY (w4.drewN nq) gu 4 (bV (V7 NY used))):=uM.out;have LO:Hid (Below w0.heap.size w0 (w4.drewN nq)):=pO KF.out _;clear xG WH WG q0 q1 uM KF TY t1 t2 t3 t4 t2' t4';generalize w4.drewN nq=w5 at *;have Nv:=jk.out.at_ (N5 (G3 (used:=used) Ig.out));have Mj:=jk.out.free yn;go_wp2
       go_roundw
       case rel=>exact c167
       case measure=>have:=XW.out;simp[intOf];omega
      ·have d6:(kx==ky)=false:=by simp[hk]
       have d7:(kx != ky)=true:=by simp[hk]
       have HV:Hid (Z9 KX KY L=false):=by
        show _=_;rw[HE.out,←HD.out,Gn];cases hpk:Kj KX KY last used ((xn:Int),(yn:Int))with
        |false=>rfl
        |true=>exact c169
       go_quiet (fail)
       exact c146
    ·obtain rfl:M=i:=ω
     have hlt':¬(M:Int)<(M:Int):=ω
     have hv:R=true:=by have:=P'.out;rw[List.drop_eq_nil_of_le (by rw[HM.out];exact Nat.le_refl _)]at this;exact this.symm
     have TY:=QA (HB.out.trans ((YR.out.trans (VG.out.mono YR.out.size)).mono HB.out.size));have F8:Hid (Z9 KX KY L=true):=by show _=_;rw[HE.out,hv]
     clear hlt hv;go_wp2;go_ret;exact⟨by rw[F8.out];rfl,TY.out⟩
