import Derived.Test.YtmepekognmlblaaGreatDoorS39
import Derived.Test.YtmepekognmlblaaGreatDoorS40
set_option maxHeartbeats 64000000
set_option maxRecDepth 100000
set_option linter.unusedVariables false
open Go.Proofs.Tryz Go.ChangeShapes Go.WideShapes Go.ChangeAt Go.RowKit
open Go.Lib renaming hid→QA
open Go.RowKit.Below renaming refl→QE
open _root_.Nat renaming le_refl→QI,zero_add→ZL,le_trans→QW,zero_le→ZR
open _root_.List renaming setIfInBounds_toArray→ZC,set_cons_succ→ZA,set_cons_zero→QZ,length_cons→GW,append_assoc→JZ,getElem?_eq_getElem→QN,mem_of_getElem?→JK,getElem?_append_right→GK,mem_cons_self→XG,getElem?_cons_succ→GV,length_map→VD,getElem?_append_left→PX,append_nil→He
open Go.IntKind renaming i64→γ
open Go.Value renaming slice→ς,pointer→π
open Go.Obj renaming cells→θ
open Go.Ending renaming returned→ρ
namespace Go.Proofs.YtmepekognmlblaaGreatDoor
namespace Match
open Mem Tree Shape
theorem Vg.more{w:World}{S S':Nat→Prop}{T:F}{v:Value}(h:Vg w S T v)(hs:∀b,S b→S' b):Vg w S' T v:=by
 exact c108
def Gl(k:Int)(x y:ByteArray)(c:F)(k':Int)(x' y':ByteArray)(c':F):F:=.cons k x y c (.cons k' x' y' c' .nil)
theorem Qiv(k:Int)(x y:ByteArray)(c:F)(k':Int)(x' y':ByteArray)(c':F):Ð (Gl k x y c k' x' y' c')=[ints (XJ (one k x y c)).ns,ints (XZ (one k x y c) (one k' x' y' c')).ns]:=rfl
abbrev FX(W W':World):Prop:=Below W.heap.size W W'
theorem qx{B m n b:Nat}(h:In B m b)(hn:m≤n):In B n b:=⟨h.1,Nat.lt_of_lt_of_le h.2 hn⟩
def j6(B:Nat)(T:F):Cd FX:=⟨fun v W=>Vg W (In B W.heap.size) T v,fun v W W' h p=>(p.keep fun b hb=>h.block b hb.2).more fun b hb=>qx hb h.size⟩
def yo(B:Nat)(T T':F)(v:Value)(W:World):Prop:=∃a0 a1 a2 a3 b0 b1 b2 b3,v=.agg #[a0,a1,a2,a3,b0,b1,b2,b3]∧Vg W (In B W.heap.size) T (.agg #[a0,a1,a2,a3])∧Vg W (In B W.heap.size) T' (.agg #[b0,b1,b2,b3])
theorem yo.on{B:Nat}{T T':F}{v:Value}{W W':World}(h:FX W W')(p:yo B T T' v W):yo B T T' v W':=by
 obtain⟨a0,a1,a2,a3,b0,b1,b2,b3,e,h1,h2⟩:=p;exact⟨a0,a1,a2,a3,b0,b1,b2,b3,e,(h1.keep fun b hb=>h.block b hb.2).more fun b hb=>qx hb h.size,(h2.keep fun b hb=>h.block b hb.2).more fun b hb=>qx hb h.size⟩
def Q0g(B:Nat)(T T':F):Cd FX:=⟨yo B T T',fun v W W' h p=>p.on h⟩
def Q0i(T:F):Cd FX:=⟨fun v W=>∃A n C,v = ς A n C∧Fs W (Lo W.heap.size) (ς A n C) T,fun v W W' h p=>by
 obtain⟨A,n,C,e,hf⟩:=p;exact⟨A,n,C,e,hf.later h⟩⟩
def cMk(B:Nat)(K:List (List Int)):Cd FX:=⟨fun v W=>Jr W (In B W.heap.size) v K,fun v W W' h p=>(p.keep fun b hb=>h.block b hb.2).more fun b hb=>qx hb h.size⟩
def vw(B:Nat)(T T':F)(K:List (List Int))(cs:List Value)(W:World)(m:Nat):Prop:=∃a0 a1 a2 a3 b0 b1 b2 b3 vm,cs=[a0,a1,a2,a3,b0,b1,b2,b3,vm,.map none,.map none,ς none 0 0,ς none 0 0]∧Vg W (In B m) T (.agg #[a0,a1,a2,a3])∧Vg W (In B m) T' (.agg #[b0,b1,b2,b3])∧Jr W (In B m) vm K
theorem vw.on{B m:Nat}{T T':F}{K:List (List Int)}{cs:List Value}{W W':World}(h:vw B T T' K cs W m)(hb:∀b,In B m b→W'.heap[b]?=W.heap[b]?):vw B T T' K cs W' m:=by
 obtain⟨a0,a1,a2,a3,b0,b1,b2,b3,vm,e,h1,h2,h3⟩:=h;exact⟨a0,a1,a2,a3,b0,b1,b2,b3,vm,e,h1.keep hb,h2.keep hb,h3.keep hb⟩
def Q0j(B:Nat)(T T':F)(K:List (List Int)):Cd FX:=⟨fun v W=>∃cs,v = .agg cs.toArray∧vw B T T' K cs W W.heap.size,fun v W W' h p=>by
 obtain⟨cs,e,a0,a1,a2,a3,b0,b1,b2,b3,vm,e1,h1,h2,h3⟩:=p;exact⟨cs,e,a0,a1,a2,a3,b0,b1,b2,b3,vm,e1,(h1.keep fun b hb=>h.block b hb.2).more fun b hb=>qx hb h.size,(h2.keep fun b hb=>h.block b hb.2).more fun b hb=>qx hb h.size,(h3.keep fun b hb=>h.block b hb.2).more fun b hb=>qx hb h.size⟩⟩
def vv(B:Nat)(T T':F)(K:List (List Int))(v:Value)(W:World):Prop:=∃g cs,v=π (some ⟨g,0,none⟩)∧B≤g∧W.heap[g]?=some (θ cs.toArray 66 (0,0))∧vw B T T' K cs W g
theorem vv.on{B:Nat}{T T':F}{K:List (List Int)}{v:Value}{W W':World}(h:FX W W')(p:vv B T T' K v W):vv B T T' K v W':=by
 obtain⟨g,cs,e,h1,h2,h3⟩:=p;have hl:g<W.heap.size:=(Array.getElem?_eq_some_iff.1 h2).1;exact⟨g,cs,e,h1,(h.block g hl).trans h2,h3.on fun b hb=>h.block b (Nat.lt_trans hb.2 hl)⟩
def dG(B:Nat)(T T':F)(K:List (List Int)):Cd FX:=⟨vv B T T' K,fun v W W' h p=>p.on h⟩
def EH(n i:Nat):List Value:=iV (List.replicate i (-1)++List.replicate (n-i) 0)
theorem Ē{n i:Nat}(h:i≤n):(EH n i).length=n:=by
 unfold EH;rw[Xh,List.length_append,List.length_replicate,List.length_replicate];omega
theorem Qve{n i:Nat}(h:i<n):(EH n i).set i (.int γ (-1))=EH n (i+1):=by
 unfold EH iV;rw[←List.map_set]
 congr 1
 rw[List.set_append_right _ _ (by rw[List.length_replicate];exact QI _),List.length_replicate,Nat.sub_self,show n-i=(n-(i+1))+1 by omega,List.replicate_succ,QZ,List.replicate_succ',JZ];rfl
def GH(s:Sd)(i m:Nat):List Nat:=(List.range i).filter fun p=>s.no p==m
theorem Qqd(s:Sd)(i m:Nat):GH s (i+1) m=GH s i m++(if s.no i=m then[i]else[]):=by
 unfold GH;rw[List.range_succ,List.filter_append]
 congr 1
 rw[List.filter_cons,List.filter_nil];by_cases e:s.no i=m
 ·rw[if_pos (by simp[e]),if_pos e]
 ·rw[if_neg (by simp[e]),if_neg e]
theorem Quc(s:Sd)(i:Nat):GH s (i+1)=upd (GH s i) (s.no i) (GH s i (s.no i)++[i]):=by
 funext m
 rw[Qqd];by_cases e:m=s.no i
 ·subst e;rw[Zo,if_pos rfl]
 ·rw[V1 _ _ e,if_neg (fun h=>e h.symm),He]
theorem Qud(s:Sd)(i m:Nat):(GH s i m).length≤i:=by
 unfold GH;exact QW (List.length_filter_le _ _) (by rw[List.length_range];exact QI _)
theorem Ħ{m N:Nat}(hN:N≤1000000)(h:m<N):Go.keyOf prog 3 (.int γ (m:Int))=some (Yq m):=ft ω
abbrev qz(N:Nat)(X:List QC)(B:Nat)(W:World)(gw cnt:Nat)(f:Lit→Value)(v:Nat→Value)(L:Nat→List Nat):Prop:=QV 3 Yq (·<N) id N X B W gw cnt f v L
def Zb(g:Nat)(cs:List Value):QC:=Qb 66 13 (ς (some ⟨g,0,none⟩) 1 1) 1 cs
def Xr(gt n i:Nat):QC:=Qb 3 1 (ς (some ⟨gt,0,none⟩) n n) n (EH n i)
def Dn(s:Sd)(N gw gt cnt:Nat)(f:Lit→Value)(v:Nat→Value)(E:List QC):List QC:=Zm prog 3 Zu gw cnt f::(Qw N v (fun m=>s.wh m)++(E++[Xr gt s.n s.n]))
def Kk(gt n:Nat):Value:=ς (some ⟨gt,0,none⟩) n n
def bu(g N:Nat)(p:List Value)(sa sb:Sd):Nat→List Value→List QC→Prop
 |0,cs,E=>cs=p++[.map none,.map none,ς none 0 0,ς none 0 0]∧E=[]
 |1,cs,E=>∃gw gt cnt f v,(g<gw∧gw<gt)∧cs=p++[.map (some gw),.map none,Kk gt sa.n,ς none 0 0]∧E=Dn sa N gw gt cnt f v []∧∀m,m<N→f (Yq m)=v m
 |_,cs,E=>∃gw gt cnt f v Td Rm cnt' f' v',(g<gw∧gw<gt∧gt<Td∧Td<Rm)∧cs=p++[.map (some gw),.map (some Td),Kk gt sa.n,Kk Rm sb.n]∧E=Dn sb N Td Rm cnt' f' v' (Dn sa N gw gt cnt f v [])∧(∀m,m<N→f (Yq m)=v m)∧∀m,m<N→f' (Yq m)=v' m
theorem Qwi{W:World}{g:Nat}{cs:List Value}(h:W.heap[g]?=some (θ cs.toArray 66 (0,0)))(hl:cs.length=13):QH W g [Zb g cs]:=by
 have hlt:g<W.heap.size:=(Array.getElem?_eq_some_iff.1 h).1;refine⟨fun t ht=>?_,fun t ht k hk=>?_,List.pairwise_singleton _ _,Nat.le_of_lt hlt⟩
 ·rw[List.mem_singleton.1 ht];refine⟨by rw[hl],.inr ⟨g,1,cs.toArray,rfl,ZR _,h,QI _,by unfold maxLen;omega,by simp[hl],?_⟩⟩;rw[Nat.one_mul,←hl];simp
 ·rw[List.mem_singleton.1 ht]at hk;have hk:some g=some k:=hk;injection hk with hk;omega
theorem ā{W wr:World}{S0 S:Nat→Prop}{g o:Nat}{s:Sd}{v0 v1 v2 v3:Value}(hp:Vg W S0 s.T (.agg #[v0,v1,v2,v3]))(hk:∀b,S0 b→wr.heap[b]?=W.heap[b]?)(hs:∀b,S0 b→S b)
 (c0:wr.cell? ⟨g,o,none⟩=some v0) (c1:wr.cell? ⟨g,o+1,none⟩=some v1) (c2:wr.cell? ⟨g,o+2,none⟩=some v2) (c3:wr.cell? ⟨g,o+3,none⟩=some v3):Je wr S g o s:=by
 obtain⟨vN,vP,vS,vK,e,h1,h2,h3,h4⟩:=(hp.keep hk).more hs;simp only[Value.agg.injEq,Array.mk.injEq,List.cons.injEq,and_true]at e;obtain⟨rfl,rfl,rfl,rfl⟩:=e;have h1':Fs wr S v0 (YG s.nd):=h1;have h2':U7 wr S v1 (s.par.map iv):=h2;have h3':U7 wr S v2 ((eI s).map iv):=h3;obtain⟨AN,CN,rfl,_,_⟩:=h1.slice;obtain⟨AP,CP,rfl,_,_,_⟩:=h2;obtain⟨AZ,CZ,rfl,_,_,_⟩:=h3;obtain⟨us,Lz,⟨AK,CK,rfl,q1,q2,q3⟩,q4⟩:=h4;have l1:(YG (nodes s.T)).len=s.n:=by rw[rh];rfl
 have l2:(List.map iv (Jn (-1) 0 s.T)).length=s.n:=by rw[VD];exact Sd.YF s
 have l3:(List.map iv (Zt s.T)).length=s.n:=by rw[VD,Xe,VD];rfl
 have l4:us.length=s.n:=by rw[Lz];unfold yl;rw[VD,Vh,←Sd.GN]
 rw[l1]at c0 h1';rw[l2]at c1 h2';rw[l3]at c2 h3';rw[l4]at c3;exact⟨AN,CN,AP,CP,AZ,CZ,AK,CK,⟨c0,c1,c2,c3⟩,h1',h2',h3',us,Lz,⟨AK,CK,by rw[l4],q1,q2,q3⟩,q4⟩
theorem U0{W:World}{B:Nat}{R:List QC}(h:QH W B R){i j k k':Nat}{t t':QC}(hi:R[i]?=some t)(hj:R[j]?=some t')(hne:i≠j)(hk:t.b=some k)(hk':t'.b=some k'):k≠k':=by
 obtain⟨li,ei⟩:=List.getElem?_eq_some_iff.1 hi;obtain⟨lj,ej⟩:=List.getElem?_eq_some_iff.1 hj;have hp:=List.pairwise_iff_getElem.1 h.ap;rcases Nat.lt_or_gt_of_ne hne with hlt|hlt
 ·have:=hp i j li lj hlt;rw[ei,ej,hk,hk']at this;rcases this with h|h
  ·cases h
  ·exact fun e=>h (by rw[e])
 ·have:=hp j i lj li hlt;rw[ei,ej,hk,hk']at this;rcases this with h|h
  ·cases h
  ·exact fun e=>h (by rw[e])
theorem ň{wr:World}{B i0 N gw cnt:Nat}{R:List QC}{s:Sd}{S:Nat→Prop}{f:Lit→Value}{v:Nat→Value}(hF:QH wr B R)(hi:R[i0]?=some (Zm prog 3 Zu gw cnt f))(hr:∀m,m<N→R[i0+m+1]?=some (Qb 3 1 (v m) (s.wh m).length (iV (ints (s.wh m)))))(hN:N=1000000)(hat:∀m,m<N→f (Yq m)=v m)
 (Dk:S gw) (hS:∀m gR,m<N→(Qb 3 1 (v m) (s.wh m).length (iV (ints (s.wh m)))).b=some gR→S gR):U5 wr S gw s:=by
 have hmap:Vj wr prog 3 Zu gw cnt f:=hF.get hi;refine⟨Dk,v,fun w' he m hm=>?_,fun m hm=>?_⟩
 ·have:=Vj.look (e:=32) (t:=63) (hmap.of_block he) (Maps.int_keyed underlying3) underlying63 (Us w') (Ħ ω (show m<N by omega));rw[this,hat m ω]
 ·have zO:=hr m ω;obtain⟨A,C,e,q1,q2⟩:=hF.slice zO;have hl:((ints (s.wh m)).map iv).length=(s.wh m).length:=by rw[VD];unfold ints;rw[VD]
  refine⟨A,C,by rw[hl];exact e,by rw[hl];exact q1,q2,?_⟩;by_cases h0:(s.wh m).length=0
  ·left
   exact c104
  ·obtain⟨gR,C',e',_,_⟩:=hF.sliceAt zO ω;rw[e]at e';injection e' with e1 e2 e3;subst e1;subst e3;have hs:=hS m gR ω (by rw[e];rfl);rw[e]at zO;refine .inr ⟨gR,0,rfl,hs,fun q u hu=>?_⟩;rw[ZL];exact hF.cell zO hu
theorem Ī{wr:World}{B j gt n:Nat}{R:List QC}(hF:QH wr B R)(hj:R[j]?=some (Xr gt n n)):wr.heap[gt]?=some (Ia (List.replicate n (-1))):=by
 have ho:wr.ownsRow 0 3 1 (ς (some ⟨gt,0,none⟩) n n) n (EH n n):=hF.get hj;rcases ho.2 with⟨h,_⟩|⟨g',cap,cur,e,_,hg,h1,h2,h3,h4⟩
 ·cases h
 ·injection e with e1 e2 e3;injection e1 with e1;injection e1 with e1 _;subst e1;subst e3;rw[hg];unfold Ia;have hc:cur.toList=EH n n:=by rw[←h4,List.take_of_length_le (by rw[Array.length_toList];omega)]
  have hm:EH n n=(List.replicate n (-1)).map iv:=by unfold EH;rw[Nat.sub_self,List.replicate_zero,He];rfl
  rw[←hm,←hc,Array.toArray_toList]
theorem fU(L seen:List Nd)(i:Nat)(h:i<L.length):(Qk seen L).1.getD i 0<seen.length+L.length:=by
 have hl:i<(Qk seen L).1.length:=by rw[Z0];exact h
 have h1:=rG L seen i L[i] ((Qk seen L).1[i]) (QN h) (QN hl);have h2:=(List.getElem?_eq_some_iff.1 h1).1;have h3:=Gh L seen;rw[List.getD_eq_getElem?_getD,QN hl];show(Qk seen L).1[i]<_;omega
def Qw4(w:World)(sa sb:Sd)(e:Ending)(w':World):Prop:=Below w.heap.size w w'∧∃(g gA gB:Nat)(S:Nat→Prop),e=ρ (π (some ⟨g,0,none⟩))∧(w.heap.size≤gA∧w.heap.size≤gB)∧MS w' S g gA gB sa sb (Kz sa sb)
theorem Jj(k:Int)(x y:ByteArray)(A:Option Addr)(n C:Nat)(c:F)(k':Int)(x' y':ByteArray)(A':Option Addr)(n' C':Nat)(c':F)(w:World)(hp:Pow w)(hf:Fs w (Lo w.heap.size) (ς A n C) c)(hf':Fs w (Lo w.heap.size) (ς A' n' C') c')
 (hc:c.size<20000) (hc':c'.size<20000) (hsm:∀i,Xc (Zt (one k x y c)) i≤4194304) (CD:∀i,Xc (Zt (one k' x' y' c')) i≤4194304) (hs:Zp (Gl k x y c k' x' y' c')) (hk:Vf (Gl k x y c k' x' y' c')) :
 Calls prog 26 #[.agg #[.int γ k,.string x,.string y,ς A n C],.agg #[.int γ k',.string x',.string y',ς A' n' C']] w (Qw4 w (XJ (one k x y c)) (XZ (one k x y c) (one k' x' y' c'))):=by
 have b1:=Qz w (θ #[.int γ k,.string x,.string y,ς A n C] 24);have q:=J6 w k x y (ς A n C);have b2:=Qz (w.alloc (θ #[.int γ k,.string x,.string y,ς A n C] 24)) (θ #[.int γ k',.string x',.string y',ς A' n' C'] 24);have q':=J6 (w.alloc (θ #[.int γ k,.string x,.string y,ς A n C] 24)) k' x' y' (ς A' n' C');have HB:=QA (b1.trans (b2.mono b1.size));have Po:Hid (∀W,Below ((w.alloc (θ #[.int γ k,.string x,.string y,ς A n C] 24)).alloc (θ #[.int γ k',.string x',.string y',ς A' n' C'] 24)).heap.size ((w.alloc (θ #[.int γ k,.string x,.string y,ς A n C] 24)).alloc (θ #[.int γ k',.string x',.string y',ς A' n' C'] 24)) W→_):=fun W hW=>q W (b2.trans (hW.mono b2.size))
 have e1:(w.alloc (θ #[.int γ k,.string x,.string y,ς A n C] 24)).heap.size=w.heap.size+1:=ψ
 rw[e1]at q';have Pn:=QA q';have LK:=QA ((hf.later b1).later b2);have XY:=QA ((hf'.later b1).later b2);have HP:=QA (hp.on (b1.trans (b2.mono b1.size)));have HC:=QA (And.intro hc hc');have Tq:=QA (And.intro hsm CD);have PZ:=QA (And.intro hs hk);obtain⟨r0,r1,r2,r3⟩:=Po.out _ (QE _ _);obtain⟨s0,s1,s2,s3⟩:=Pn.out _ (QE _ _);clear e1 b1 b2 q q' hp hf hf' hc hc' hsm CD hs hk;go_enter func26,ntmps26;go_wp2;clear r0 r1 r2 r3 s0 s1 s2 s3;obtain⟨KK,O8⟩:=Mem.QD ([ints (XJ (one k x y c)).ns,ints (XZ (one k x y c) (one k' x' y' c')).ns]);have KA:=QA O8;refine Ek (FX) [Cd.is (.agg #[.int γ k,.string x,.string y,ς A n C]),j6 w.heap.size (one k x y c),Cd.is (.agg #[.int γ k',.string x',.string y',ς A' n' C']),j6 w.heap.size (one k' x' y' c'),Q0g w.heap.size (one k x y c) (one k' x' y' c'),Cd.is (.agg #[.int γ k,.string x,.string y,ς A n C]),Cd.is (.agg #[.int γ k',.string x',.string y',ς A' n' C']),Q0i (Gl k x y c k' x' y' c'),cMk w.heap.size KK,Q0j w.heap.size (one k x y c) (one k' x' y' c') KK,dG w.heap.size (one k x y c) (one k' x' y' c') KK,dG w.heap.size (one k x y c) (one k' x' y' c') KK] χ δ χ (QE _ _) (fun _ _ _ h k=>h.trans (k.mono h.size)) ?steps ?behind
 case steps =>
  intro xv W hW a ha;replace hW:=vH hW;simp only[Qi]at ha;simp only[ZC,ZA,QZ,ZL,Nat.reduceAdd]at ha;subst ha;refine⟨?s0,?s1,?s2,?s3,?s4,?s5,?s6,?s7,?s8,?s9,?JQ,?GA,trivial⟩;all_goals intro hd K hK
  all_goals(try simp only[Act.put,ZC,ZA,QZ]at hK)
  case s0|s5=>clear hd;refine(if_pos (by rfl)).mpr ?_;obtain⟨p0,p1,p2,p3⟩:=Po.out W hW;exact c16
  case s1=>have hx0:xv 0=.agg #[.int γ k,.string x,.string y,ς A n C]:=hd 0 χ;clear hd;rw[hx0]at hK⊢;refine(if_pos (by rfl)).mpr ?_;have hcl:=Ô k x y A n C c W (LK.out.later hW) (by have:=HC.out;omega) Tq.out.1;exact c80
  case s2|s6=>clear hd;refine(if_pos (by rfl)).mpr ?_;obtain⟨p0,p1,p2,p3⟩:=Pn.out W hW;exact c16
  case s3=>have hx0:xv 2=.agg #[.int γ k',.string x',.string y',ς A' n' C']:=hd 2 χ;clear hd;rw[hx0]at hK⊢;refine(if_pos (by rfl)).mpr ?_;have hcl:=Ô k' x' y' A' n' C' c' W (XY.out.later hW) (by have:=HC.out;omega) Tq.out.2;exact c80
  case s4=>have hx1:Vg W (In w.heap.size W.heap.size) (one k x y c) (xv 1):=hd 1 χ;have hx3:Vg W (In w.heap.size W.heap.size) (one k' x' y' c') (xv 3):=hd 3 χ;clear hd;refine(if_pos (by rfl)).mpr ?_;obtain⟨a0,a1,a2,a3,ea,h1,h2,h3,h4⟩:=hx1;obtain⟨b0,b1,b2,b3,eb,h5,h6,h7,h8⟩:=hx3;rw[ea,eb]at hK⊢;go_simp;exact hK.out _ _ (QE _ _) ⟨a0,a1,a2,a3,b0,b1,b2,b3,rfl,⟨a0,a1,a2,a3,rfl,h1,h2,h3,h4⟩,⟨b0,b1,b2,b3,rfl,h5,h6,h7,h8⟩⟩
  case s7 =>
   have JB:xv 5=.agg #[.int γ k,.string x,.string y,ς A n C]:=hd 5 χ;have JR:xv 6=.agg #[.int γ k',.string x',.string y',ς A' n' C']:=hd 6 χ;clear hd;rw[JB,JR]at hK⊢;refine(if_pos (by rfl)).mpr ?_;go_simp;have hnew:Fs (W.alloc (θ #[.int γ k,.string x,.string y,ς A n C,.int γ k',.string x',.string y',ς A' n' C'] 24)) (Lo (W.heap.size+1)) (ς (some ⟨W.heap.size,0,none⟩) 2 2) (Gl k x y c k' x' y' c') :=
    Qy1 W [(⟨k,x,y,c⟩,ς A n C),(⟨k',x',y',c'⟩,ς A' n' C')] (fun p hp=>by
     simp only[List.mem_cons,List.not_mem_nil,or_false]at hp;rcases hp with rfl|rfl
     ·exact LK.out.later hW
     ·exact XY.out.later hW) (show 2≤45000 by decide)
   exact hK.out _ _ (Qz W _) ⟨_,2,2,rfl,hnew.up ψ⟩
  case s8=>have YX:∃A n C,(xv 7)=ς A n C∧Fs W (Lo W.heap.size) (ς A n C) (Gl k x y c k' x' y' c'):=hd 7 χ;clear hd;refine(if_pos (by rfl)).mpr ?_;obtain⟨A7,n7,C7,e7,h7⟩:=YX;rw[e7]at hK⊢;have hcl:=Qov A7 n7 C7 _ W (HP.out.on hW) h7 (by have:=HC.out;simp only[Gl,F.size];omega) PZ.out.1 PZ.out.2;rw[Qiv,O8]at hcl;go_simp;go_at_call 38;refine hcl.mono ?_;rintro e W' ⟨hb,v,rfl,hm⟩;exact hK.out _ _ hb (hm.more fun b hb'=>⟨QW (QW HB.out.size hW.size) hb'.1,hb'.2⟩)
  case s9=>have JJ:yo w.heap.size (one k x y c) (one k' x' y' c') (xv 4) W:=hd 4 χ;have UX:Jr W (In w.heap.size W.heap.size) (xv 8) KK:=hd 8 χ;clear hd;refine(if_pos (by rfl)).mpr ?_;obtain⟨a0,a1,a2,a3,b0,b1,b2,b3,e4,h4,h5⟩:=JJ;obtain⟨vm,M8⟩:=Mem.QD (xv 8);rw[M8]at UX;have nJ:=UX;obtain⟨us,Lz,⟨A8,C8,e8,_,_⟩,_⟩:=UX;rw[Lz]at e8;clear Lz;subst e8;rw[e4,M8]at hK⊢;go_simp;exact hK.out _ _ (QE _ _) ⟨_,rfl,a0,a1,a2,a3,b0,b1,b2,b3,_,rfl,h4,h5,nJ⟩
  case JQ=>have Lx:∃cs,(xv 9)=.agg cs.toArray∧vw w.heap.size (one k x y c) (one k' x' y' c') KK cs W W.heap.size:=hd 9 χ;clear hd;refine(if_pos (by rfl)).mpr ?_;obtain⟨cs,e9,h9⟩:=Lx;have h9':=h9;obtain⟨a0,a1,a2,a3,b0,b1,b2,b3,vm,qo,_,_,_⟩:=h9;subst qo;rw[e9]at hK⊢;go_simp;exact hK.out _ _ (Qz W _) ⟨W.heap.size,_,rfl,QW HB.out.size hW.size,heap_alloc_new W _,h9'.on fun b hb=>(Qz W _).block b hb.2⟩
  case GA=>have ZE:vv w.heap.size (one k x y c) (one k' x' y' c') KK (xv 10) W:=hd 10 χ;clear hd;refine(if_pos (by rfl)).mpr ?_;go_simp;exact hK.out _ _ (QE _ _) ZE
 case behind =>
  intro xv W hW hx a ha;replace hW:=vH hW;simp only[Qi]at ha;simp only[ZC,ZA,QZ,ZL,Nat.reduceAdd]at ha;subst ha;obtain⟨g,cs,eg,h1,h2,h3⟩:vv w.heap.size (one k x y c) (one k' x' y' c') KK (xv 11) W:=hx 11 δ;rw[eg];obtain⟨a0,a1,a2,a3,b0,b1,b2,b3,vm,qo,mD,hpb,hmk⟩:=h3;obtain⟨T0,hT0⟩:=Mem.QD (one k x y c);obtain⟨T1,Dw⟩:=Mem.QD (one k' x' y' c');rw[hT0]at mD;rw[Dw]at hpb;rw[hT0,Dw]at KA;have YB:=QA hT0;have GF:=QA Dw;have YR:=VO HB hW;have BD:=QA (And.intro mD (And.intro hpb hmk));have uR:=QA h1;obtain⟨N,hN⟩:∃N:Nat,N=1000000:=⟨_,rfl⟩;have Ir:=QA hN;have FH:=Qwi h2 (by rw[qo];rfl);subst qo;have ID:=QA FH;have c8:W.cell? ⟨g,8,none⟩=some vm:=FH.cell (i:=0) rfl (j:=8) rfl;have Wk:pE W (In w.heap.size g) g (XJ T0) (XZ T0 T1):=by have hm2:=hmk;rw[←KA.out]at hm2;obtain⟨us,Lz,⟨A8,C8,e8,r1,r2,r3⟩,r4⟩:=hm2;have Lz:us.length=2:=Lz;rw[Lz]at e8;exact⟨A8,C8,by rw[c8,e8],us,Lz,⟨A8,C8,by rw[Lz],r1,r2,r3⟩,r4⟩
  obtain⟨gM,oM,CM,A0,C0,A1,C1,n1,n2,n3,m0,m1⟩:=Wk.two;rw[c8]at n1;injection n1 with n1;subst n1;have TV:=QA (And.intro n2 (And.intro n3 (And.intro m0 m1)));have Ru:Hid (gM<g∧∀sd,sd<2→∃A C,W.cell? ⟨gM,oM+sd,none⟩=some (ς A (YE (XJ T0) (XZ T0 T1) sd).ns.length C)∧Vx W (In w.heap.size g) A ((ints (YE (XJ T0) (XZ T0 T1) sd).ns).map iv)):=by
   refine⟨?_,fun sd Oa=>?_⟩
   ·obtain⟨AM,CM',hc,us,Lz,⟨A8,C8,e8,r1,r2,r3⟩,r4⟩:=Wk;rcases r3 with r3|⟨b',o',e9,h9,_⟩
    ·rw[r3]at Lz;simp at Lz
    ·rw[c8]at hc;injection hc with hc;injection hc with hA _ _;injection e8 with e8a _ _;rw[e8a,e9]at hA;injection hA with hA;injection hA with hA _;rw[hA];exact h9.2
   ·have:sd=0∨sd=1:=ω
    rcases this with rfl|rfl
    ·exact⟨A0,C0,n2,m0⟩
    ·exact⟨A1,C1,n3,m1⟩
  have J':Hid (∀sd,sd<2→(YE (XJ T0) (XZ T0 T1) sd).ns.length=(YE (XJ T0) (XZ T0 T1) sd).n∧(YE (XJ T0) (XZ T0 T1) sd).n≤20000∧∀q,q<(YE (XJ T0) (XZ T0 T1) sd).n→(YE (XJ T0) (XZ T0 T1) sd).no q<N):=by
   intro sd Oa;have hc0:(nodes T0).length≤20000:=by rw[Qj,←YB.out,Q4];have:=HC.out;omega
   have hc1:(nodes T1).length≤20000:=by rw[Qj,←GF.out,Q4];have:=HC.out;omega
   have FP:=Ir.out;have:sd=0∨sd=1:=ω
   rcases this with rfl|rfl
   ·refine⟨Z0 _ _,hc0,fun q hq=>?_⟩;have:=fU (nodes T0) [] q hq;rw[List.length_nil]at this;show(Qk [] (nodes T0)).1.getD q 0<N;omega
   ·refine⟨Z0 _ _,hc1,fun q hq=>?_⟩;have h1:=fU (nodes T1) (Qk [] (nodes T0)).2 q hq;have h2:=Gh (nodes T0) [];rw[List.length_nil]at h2;show(Qk (Qk [] (nodes T0)).2 (nodes T1)).1.getD q 0<N;omega
  obtain⟨sa,hsa⟩:=Mem.QD (XJ T0);obtain⟨sb,Hw⟩:=Mem.QD (XZ T0 T1);have Hh:=QA hsa;have HSB:=QA Hw;obtain⟨pp,Hz⟩:=Mem.QD ([a0,a1,a2,a3,b0,b1,b2,b3,ς (some ⟨gM,oM,none⟩) 2 CM]);have Rb:=QA Hz;rw[hsa,Hw]at Ru J';have LY:Hid ((Below g W W∧QH W g (Zb g (pp++[.map none,.map none,ς none 0 0,ς none 0 0])::[]))∧bu g N pp sa sb 0 (pp++[.map none,.map none,ς none 0 0,ς none 0 0]) []):=⟨⟨QE _ _,by rw[←Hz];exact FH⟩,rfl,rfl⟩;have hpl:pp.length=9:=by rw[←Hz];rfl
  clear hx h1 h2 mD hpb hmk hT0 Dw hN FH Wk n2 n3 m0 m1 hsa Hw HB Po Pn LK XY HP HC Tq PZ hW Hz eg;generalize xv 0=u10 at *;generalize xv 1=u11 at *;generalize xv 2=u12 at *;generalize xv 3=u13 at *;generalize xv 4=u14 at *;generalize xv 5=u15 at *;generalize xv 6=u16 at *;generalize xv 7=u17 at *;generalize xv 8=u18 at *;generalize xv 9=u19 at *;generalize xv 10=u20 at *;go_wp2;clear c8
  go_loopw [26] (fun tE wr=>∃(sd:Nat)(cs:List Value)(E:List QC),sd≤2∧tE=.int γ (sd:Int)∧Hid ((Below g W wr∧QH wr g (Zb g cs::E))∧bu g N pp sa sb sd cs E)) (fun s _=>2-(intOf s).toNat)
  case atStart=>exact⟨0,_,[],ω,rfl,LY⟩
  case round =>
   clear LY;obtain⟨sd,cs,E,Oa,rfl,HS⟩:=hrel;by_cases hlt:sd<2
   ·have hlt':(sd:Int)<2:=ω
    have kI:(0:Int)≤(sd:Int):=ω
    obtain⟨Ar,Cr,d1,Lb⟩:=Ru.out.2 sd hlt;obtain⟨hnl,kR,Wl⟩:=J'.out sd hlt;obtain⟨s,hs⟩:=Mem.QD (YE sa sb sd);have Pp:=QA hs;rw[hs]at d1 Lb hnl kR Wl;rw[hnl]at d1;have d1:=(HS.out.1.1.cell Ru.out.1).trans d1;have Ip:=QA Lb;have aV:=QA Wl;have TU:=QA hnl;obtain⟨n,hn⟩:=Mem.QD (s.n);have HN:=QA hn;rw[hn]at d1 kR;have hcl:cs.length=13:=by have ho:wr.ownsRow 0 66 13 (ς (some ⟨g,0,none⟩) 1 1) 1 cs:=HS.out.1.2.get (i:=0) rfl;have:=ho.1;omega
    obtain⟨x1,hx1⟩:∃x1,cs[9+sd]?=some x1:=⟨_,QN ω⟩;have k1:wr.cell? ⟨g,9+sd,none⟩=some x1:=HS.out.1.2.cell (i:=0) rfl hx1;have k1f:wr.frozen? ⟨g,9+sd,none⟩=false:=HS.out.1.2.JO (i:=0) rfl _;have Dp:g<wr.heap.size:=(HS.out.1.2.lt (XG ..) (k:=g) rfl).2;have mk:∀W:World,(Instr.makeMap 63 none).run prog W=.ok (.map (some W.heap.size)) (W.alloc (.map #[] 0)):=fun W=>by rw[run_makeMap]
    have hbz:=Qz wr (.map #[] 0);have k2:=(hbz.cell (p:=⟨g,9+sd,none⟩) Dp).trans k1;have k2f:(wr.alloc (.map #[] 0)).frozen? ⟨g,9+sd,none⟩=false:=((HS.out.1.2.later hbz).JO (i:=0) rfl _);clear hs Lb Wl hnl hn
    go_upto_region 6 with(fail)
    obtain⟨cs1,Ds⟩:=Mem.QD (cs.set (9+sd) (.map (some wr.heap.size)));have hst:=HS.out.1.2.store (i:=0) rfl (9+sd) (.map (some wr.heap.size));rw[Ds]at hst;have hsz:(wr.setCell ⟨g,9+sd,none⟩ (.map (some wr.heap.size))).heap.size=wr.heap.size:=ψ
    have Pe:=(Ud (pX hst.1 prog 3 Zu) N).perm (R':=Zm prog 3 Zu wr.heap.size 0 (fun _=>Zu)::(Qw N (fun _=>Zu) (fun _=>[])++(Zb g cs1::E))) (by
     rw[hsz,JZ];exact List.perm_append_comm)
    have Fm:qz N (Zb g cs1::E) g ((wr.setCell ⟨g,9+sd,none⟩ (.map (some wr.heap.size))).alloc (.map #[] 0)) wr.heap.size 0 (fun _=>Zu) (fun _=>Zu) (GH s 0):=⟨Pe,fun _ _=>rfl⟩;have ZX:Below g W ((wr.setCell ⟨g,9+sd,none⟩ (.map (some wr.heap.size))).alloc (.map #[] 0)):=(HS.out.1.1.trans hst.2).trans ((Qz _ _).mono (by rw[hsz];omega));have HSt:=QA HS.out.2;have jm:Hid (g<wr.heap.size):=Dp;have aI:Hid (∀qh,(∃nn,Xr qh nn nn∈E)→qh<wr.heap.size):=fun qh ⟨nn,h⟩=>(HS.out.1.2.lt (List.mem_cons_of_mem _ h) (k:=qh) rfl).2
    clear hst Pe k1 k1f hbz k2 k2f mk hsz HS Dp d1;have xk:wr.heap.size<((wr.setCell ⟨g,9+sd,none⟩ (.map (some wr.heap.size))).alloc (.map #[] 0)).heap.size:=ψ
    generalize(wr.setCell ⟨g,9+sd,none⟩ (.map (some wr.heap.size))).alloc (.map #[] 0)=w1 at *;generalize wr.heap.size=gw at *;have cG:cs1.length=13:=by rw[←Ds,List.length_set];exact hcl
    obtain⟨x2,hx2⟩:∃x2,cs1[11+sd]?=some x2:=⟨_,QN ω⟩;have hi2:(Zm prog 3 Zu gw 0 (fun _=>Zu)::(Qw N (fun _=>Zu) (GH s 0)++(Zb g cs1::E)))[N+0+1]?=some (Zb g cs1):=Fm.RF (j:=0) rfl;have j1:w1.cell? ⟨g,11+sd,none⟩=some x2:=Fm.all.cell hi2 hx2;have j1f:w1.frozen? ⟨g,11+sd,none⟩=false:=Fm.all.JO hi2 _
    have mH:∀W:World,(Instr.makeSlice 32 (.int γ (n:Int)) (.int γ (n:Int))).run prog W = .ok (ς (some ⟨W.heap.size,0,none⟩) n n) (W.alloc (θ (EH n 0).toArray 3)):=fun W=>by
     have:=Jg n ω W;rw[this];unfold EH;rw[List.replicate_zero,List.nil_append,Nat.sub_zero]
    have Oj:g<w1.heap.size:=by have:=jm.out;omega
    have hb2:=Qz w1 (θ (EH n 0).toArray 3);have j2:=(hb2.cell (p:=⟨g,11+sd,none⟩) Oj).trans j1;have j2f:(w1.alloc (θ (EH n 0).toArray 3)).frozen? ⟨g,11+sd,none⟩=false:=(Fm.later hb2).all.JO hi2 _;go_wp2
    go_region
    obtain⟨gt,hgt⟩:=Mem.QD (w1.heap.size);obtain⟨Hb,Dr⟩:=Mem.QD (cs1.set (11+sd) (Kk gt n));have hst:=Fm.all.store hi2 (11+sd) (Kk gt n);have hsz:(w1.setCell ⟨g,11+sd,none⟩ (Kk gt n)).heap.size=gt:=by rw[←hgt];simp
    have hr1:qz N (Zb g Hb::E) g (w1.setCell ⟨g,11+sd,none⟩ (Kk gt n)) gw 0 (fun _=>Zu) (fun _=>Zu) (GH s 0):=by
     refine⟨?_,fun _ _=>rfl⟩;have:=hst.1;rw[Dr]at this;rw[Nat.add_zero,ZA,List.set_append_right _ _ (by rw[Qe];exact QI _),Qe,Nat.sub_self,QZ]at this;exact this
    have hr2:qz N ((Zb g Hb::E)++[Xr gt n 0]) g (((w1.setCell ⟨g,11+sd,none⟩ (Kk gt n)).alloc (θ (EH n 0).toArray 3)).drew) gw 0 (fun _=>Zu) (fun _=>Zu) (GH s 0):=by
     have:=hr1.more (e:=3) (sz:=1) (EH n 0).toArray n (by unfold maxLen;omega) (by simp[Ē (ZR n)]);rw[hsz]at this;exact this.later ⟨rfl,rfl,rfl,QI _,fun _ _=>rfl⟩
    have hb3:Below g W (((w1.setCell ⟨g,11+sd,none⟩ (Kk gt n)).alloc (θ (EH n 0).toArray 3)).drew):=(ZX.trans hst.2).trans (((Qz (w1.setCell ⟨g,11+sd,none⟩ (Kk gt n)) (θ (EH n 0).toArray 3)).trans (c:=((w1.setCell ⟨g,11+sd,none⟩ (Kk gt n)).alloc (θ (EH n 0).toArray 3)).drew) ⟨rfl,rfl,rfl,QI _,fun _ _=>rfl⟩).mono (by rw[hsz,←hgt];omega));rw[hgt];have P7:Hid (gw<gt):=by show _<_;rw[←hgt];exact xk
    have BL:Hid (Hb[9+sd]?=some (.map (some gw))∧Hb[11+sd]?=some (Kk gt n)):=by
     constructor
     ·rw[←Dr,List.getElem?_set_ne ω,←Ds,List.getElem?_set_self ω]
     ·rw[←Dr,List.getElem?_set_self ω]
    have Pv:Hid ((cs.set (9+sd) (.map (some gw))).set (11+sd) (Kk gt n)=Hb):=by show _=_;rw[Ds,Dr]
    have EB:Hid (Below g W (((w1.setCell ⟨g,11+sd,none⟩ (Kk gt n)).alloc (θ (EH n 0).toArray 3)).drew)∧qz N ((Zb g Hb::E)++[Xr gt n 0]) g (((w1.setCell ⟨g,11+sd,none⟩ (Kk gt n)).alloc (θ (EH n 0).toArray 3)).drew) gw 0 (fun _=>Zu) (fun _=>Zu) (GH s 0)):=⟨hb3,hr2⟩;show Exit.then _ _ _ _ (((w1.setCell ⟨g,11+sd,none⟩ (Kk gt n)).alloc (θ (EH n 0).toArray 3)).drew);generalize((w1.setCell ⟨g,11+sd,none⟩ (Kk gt n)).alloc (θ (EH n 0).toArray 3)).drew=w2 at *;clear hst hsz hr1 hr2 hb3 hgt xk Fm ZX hi2 j1 j1f j2 j2f mH Oj hb2 Ds Dr hx1 hx2 hcl cG;go_wp2
    go_loopw [47] (fun s47 wr=>∃(i cnt:Nat)(f:Lit→Value)(v:Nat→Value),i≤n∧s47=.int γ (i:Int)∧cnt≤i∧Hid (Below g W wr∧qz N ((Zb g Hb::E)++[Xr gt n i]) g wr gw cnt f v (GH s i))) (fun s _=>n-(intOf s).toNat)
    case atStart=>exact⟨0,0,_,_,ZR _,rfl,QI _,EB⟩
    case round =>
     clear EB;obtain⟨i,cnt,f,v,hi,rfl,GU,HR⟩:=hrel;by_cases hil:i<n
     ·have Q3m:(i:Int)<(n:Int):=ω
      have hi0:(0:Int)≤(i:Int):=ω
      obtain⟨gr,tT,ear,hgr,d2⟩:=Ip.out.at_ (ints_at (Jo TU.out (show i<s.n by rw[HN.out];exact hil)));subst ear;have d2:=(HR.out.1.cell (p:=⟨gr,tT+i,none⟩) hgr.2).trans d2;obtain⟨m,hm⟩:=Mem.QD (s.no i);have HM:=QA hm;rw[hm]at d2;have Sw:m<N:=by rw[←hm];exact aV.out i (by rw[HN.out];exact hil)
      clear hm hgr;have FP:=Ir.out;have hkey:Go.keyOf prog 3 (.int γ (m:Int))=some (Yq m):=Ħ ω Sw;have HKEY:=QA hkey;obtain⟨Aj,Cj,ej,_,_⟩:=HR.out.2.slice (j:=m) Sw;obtain⟨lj,YI⟩:=Mem.QD ((GH s i m).length);have wF:Hid (lj≤20000):=by show _≤_;rw[←YI];have:=Qud s i m;omega
      rw[YI]at ej;have HVJ:Hid (f (Yq m)=ς Aj lj Cj):=by show _=_;rw[HR.out.2.at_ m Sw];exact ej
      have HIM:Hid ((Zm prog 3 Zu gw cnt f::(Qw N v (GH s i)++((Zb g Hb::E)++[Xr gt n i])))[m+1]?=some (Qb 3 1 (ς Aj lj Cj) lj (iV (ints (GH s i m))))):=by have:=HR.out.2.idx (j:=m) Sw;rw[YI,ej]at this;exact this
      have uO:Hid ((Zm prog 3 Zu gw cnt f::(Qw N v (GH s i)++((Zb g Hb::E)++[Xr gt n i])))[N+0+1]?=some (Zb g Hb)):=HR.out.2.RF (j:=0) rfl
      have uN:Hid (∀v',((Zm prog 3 Zu gw cnt f::(Qw N v (GH s i)++((Zb g Hb::E)++[Xr gt n i]))).set (m+1) (Qb 3 1 v' (lj+1) (iV (ints (GH s i m))++[.int γ (i:Int)])))[N+0+1]? = some (Zb g Hb)):=fun v'=>by
       rw[List.getElem?_set_ne ω];exact uO.out
      have HWJ:Hid (∀v',(Qw N v (GH s i)).set m (Qb 3 1 v' (lj+1) (iV (ints (GH s i m))++[.int γ (i:Int)]))=Qw N (upd v m v') (GH s (i+1))):=fun v'=>by
       have:=Qbo (n:=N) (j:=m) (p:=i) v (GH s i) v';rw[YI]at this;rw[this,Quc s i,HM.out]
      obtain⟨i0,KZ,hz0,hz1,hz2⟩:=info_parts Zq;have Px:=QA HR.out.2.at_;clear hkey ej YI;go_wp2;refine Z3 (AG wr g (fun jj=>([some (π (some ⟨g,0,none⟩)),some (.int γ (sd:Int)),some (π (some ⟨g,0,none⟩)),some (π (some ⟨g,9,none⟩)),some (π (some ⟨g,9+sd,none⟩)),some (.map (some gw)),some (.int γ (m:Int)),some (π (some ⟨g,0,none⟩)),some (.int γ (sd:Int)),some (π (some ⟨g,0,none⟩)),some (π (some ⟨g,9,none⟩)),some (π (some ⟨g,9+sd,none⟩)),some (.map (some gw)),some (.int γ (m:Int)),some (ς Aj lj Cj),some (.int γ (i:Int)),none,none,none]:List (Option Value)).getD jj none) 16 17 18 (Zm prog 3 Zu gw cnt f::(Qw N v (GH s i)++((Zb g Hb::E)++[Xr gt n i]))) ([.int γ (i:Int)]) (fun v'=>(Zm prog 3 Zu gw cnt f::(Qw N v (GH s i)++((Zb g Hb::E)++[Xr gt n i]))).set (m+1) (Qb 3 1 v' (lj+1) (iV (ints (GH s i m))++[.int γ (i:Int)]))) (fun v'=>((Zm prog 3 Zu gw cnt f::(Qw N v (GH s i)++((Zb g Hb::E)++[Xr gt n i]))).set (m+1) (Qb 3 1 v' (lj+1) (iV (ints (GH s i m))++[.int γ (i:Int)]))).set 0 (Zm prog 3 Zu gw (cnt+1) (KN f (Yq m) v')))) χ δ χ (fun _=>AG.start HR.out.2.all) ?steps ?done
      case steps =>
       intro L xv W' hI hcl a ha;have VF:g≤W'.heap.size:=QW HR.out.2.all.B hI.QF.size;simp only[Qi]at ha;simp only[ZC,ZA,QZ,ZL,Nat.reduceAdd]at ha;subst ha;refine⟨?s0,?s1,?s2,?s3,?s4,?s5,?s6,?s7,?s8,?s9,?JQ,?GA,?YU,?EU,?UU,?PA,?ED,?SK,?BS,trivial⟩;all_goals intro hL hd K hK
       all_goals(try simp only[Act.put,ZC,ZA,QZ]at hK)
       case s0|s1|s6|s7|s8|EU|PA=>clear hd;exact c20
       case s2=>have hx0:=hI.kc 0 _ rfl (hd 0 χ);clear hd;rw[hx0]at hK⊢;exact c20
       case s3=>have hx2:=hI.kc 2 _ rfl (hd 2 χ);clear hd;rw[hx2]at hK⊢;exact c20
       case s4=>have hx3:=hI.kc 3 _ rfl (hd 3 χ);have hx1:=hI.kc 1 _ rfl (hd 1 χ);clear hd;rw[hx3]at hK⊢;rw[hx1]at hK⊢;exact c20
       case s5 =>
        have JJ:=hI.kc 4 _ rfl (hd 4 χ);have hq:W'.cell? ⟨g,9+sd,none⟩=some (.map (some gw)):=by
         cases hA:L 17 with
         |false=>exact(hI.f0 hA).cell (i:=N+0+1) uO.out BL.out.1
         |true=>exact(hI.f1 hA (Qh hcl hL χ)).cell (i:=N+0+1) (uN.out _) BL.out.1
        clear hd;rw[JJ]at hK⊢;exact c20
       case s9=>have YX:=hI.kc 7 _ rfl (hd 7 χ);clear hd;rw[YX]at hK⊢;exact c20
       case JQ=>have Lx:=hI.kc 9 _ rfl (hd 9 χ);clear hd;rw[Lx]at hK⊢;exact c20
       case GA=>have ZE:=hI.kc 10 _ rfl (hd 10 χ);have UX:=hI.kc 8 _ rfl (hd 8 χ);clear hd;rw[ZE]at hK⊢;rw[UX]at hK⊢;exact c20
       case YU =>
        have JE:=hI.kc 11 _ rfl (hd 11 χ);have hq:W'.cell? ⟨g,9+sd,none⟩=some (.map (some gw)):=by
         cases hA:L 17 with
         |false=>exact(hI.f0 hA).cell (i:=N+0+1) uO.out BL.out.1
         |true=>exact(hI.f1 hA (Qh hcl hL χ)).cell (i:=N+0+1) (uN.out _) BL.out.1
        clear hd;rw[JE]at hK⊢;exact c20
       case UU =>
        have XL:=hI.kc 12 _ rfl (hd 12 χ);have YY:=hI.kc 13 _ rfl (hd 13 χ);have hF:=hI.f0 (Qh hcl hL χ);have hlk:(Instr.lookup 63 (.map (some gw)) (.int γ (m:Int)) false).run prog W'=.ok (ς Aj lj Cj) W':=by have:=Vj.look (e:=32) (t:=63) (show Vj W' prog 3 Zu gw cnt f from hF.get (i:=0) rfl) (Maps.int_keyed underlying3) underlying63 (Us W') HKEY.out;rw[this,HVJ.out]
        clear hd;rw[XL]at hK⊢;rw[YY]at hK⊢;exact c20
       case ED=>have EZ:=hI.kc 15 _ rfl (hd 15 χ);clear hd;rw[EZ]at hK⊢;refine(if_pos (by rfl)).mpr ?_;have UJ:=Qz W' (θ #[.int γ (i:Int)] 3);have hcn:=Vk W' [.int γ (i:Int)] 3;go_simp;exact hK.out _ _ (hI.build VF UJ rfl δ δ rfl hcn)
       case SK=>have PH:=hI.kc 14 _ rfl (hd 14 χ);have hF:=hI.f0 hL;obtain⟨gb,cb,Fj,hcb⟩:=hI.fb (hd 16 χ) hL;obtain⟨v',W9,hr,hf,hb,_⟩:=hF.VT (i:=m+1) HIM.out _ underlying32 KZ hz0 hz1 hz2 rfl δ δ rfl hcb (by intro u hu;rw[List.mem_singleton.1 hu];rfl) (by have:=wF.out;omega);rw[PH]at hK⊢;rw[Fj]at hK⊢;refine(if_pos (by rfl)).mpr ?_;exact K6 rfl rfl rfl hr (hK.out _ _ (hI.app rfl δ hL hb hf))
       case BS=>have JB:=hI.kc 5 _ rfl (hd 5 χ);have JR:=hI.kc 6 _ rfl (hd 6 χ);have hA:=hd 17 χ;have hF:=hI.f1 hA hL;clear hd;obtain⟨W9,hrun,hf,hb,_⟩:=fM (i:=0) (e:=32) (t:=63) (P:=prog) (k:=3) (z:=Zu) (b:=gw) (n:=cnt) (f:=f) hF rfl (Maps.int_keyed underlying3) underlying63 (by unfold maxLen;omega) HKEY.out (val:=xv 17);rw[JB]at hK⊢;rw[JR]at hK⊢;refine(if_pos (by rfl)).mpr ?_;go_simp;exact hK.out undef _ (hI.store rfl δ hA hb hf)
      case done =>
       intro L xv W' hI hall a ha;have hF:=hI.f2 (hall 18 δ);have hBl:=hI.QF;simp only[Qi]at ha;simp only[ZC,ZA,QZ,ZL,Nat.reduceAdd]at ha;subst ha;rw[ZA,List.set_append_left _ _ (by rw[Qe];exact Sw),HWJ.out,QZ]at hF
       have UF:Hid (Below g W W'∧qz N ((Zb g Hb::E)++[Xr gt n i]) g W' gw (cnt+1) (KN f (Yq m) (xv 17)) (upd v m (xv 17)) (GH s (i+1))):=⟨HR.out.1.trans hBl,hF,fun q hq=>by
        by_cases e:q=m
        ·subst e;rw[Gb];exact(Zo _ _ _).symm
        ·rw[E0 _ _ (ö e),Px.out q hq];exact(V1 _ _ e).symm⟩
       have O0:((Zb g Hb::E)++[Xr gt n i])[E.length+1]?=some (Xr gt n i):=by rw[GK (by rw[GW];exact QI _),GW,Nat.sub_self];rfl
       have RN:=UF.out.2.RF O0;have s1:W'.cell? ⟨g,11+sd,none⟩=some (ς (some ⟨gt,0,none⟩) n n):=UF.out.2.all.cell (i:=N+0+1) (UF.out.2.RF (j:=0) rfl) BL.out.2;obtain⟨u0,hu0⟩:∃u,(EH n i)[i]?=some u:=⟨_,QN (by rw[Ē hi];exact hil)⟩;have s2:W'.cell? ⟨gt,i,none⟩=some u0:=UF.out.2.all.cell RN hu0;have s3:W'.frozen? ⟨gt,i,none⟩=false:=UF.out.2.all.JO RN _;have hst:=UF.out.2.all.store RN i (.int γ (-1));have Tv:Hid (Below g W (W'.setCell ⟨gt,i,none⟩ (.int γ (-1)))∧qz N ((Zb g Hb::E)++[Xr gt n (i+1)]) g (W'.setCell ⟨gt,i,none⟩ (.int γ (-1))) gw (cnt+1) (KN f (Yq m) (xv 17)) (upd v m (xv 17)) (GH s (i+1))):=by refine⟨UF.out.1.trans hst.2,?_,UF.out.2.at_⟩;have h1:=hst.1;rw[Qve hil,ZA,List.set_append_right _ _ (by rw[Qe];omega),Qe,Nat.add_sub_cancel_left,List.set_append_right _ _ (by rw[GW];exact QI _),GW,Nat.sub_self,QZ]at h1;exact h1
       generalize xv 0=y0 at *;generalize xv 1=y1 at *;generalize xv 2=y2 at *;generalize xv 3=y3 at *;generalize xv 4=y4 at *;generalize xv 5=y5 at *;generalize xv 6=y6 at *;generalize xv 7=y7 at *;generalize xv 8=y8 at *;generalize xv 9=y9 at *;generalize xv 10=y10 at *;generalize xv 11=y11 at *;generalize xv 12=y12 at *;generalize xv 13=y13 at *;generalize xv 14=y14 at *;generalize xv 15=y15 at *;generalize xv 16=y16 at *;generalize xv 17=y17 at *;clear hI hall hF hBl O0 RN hst hu0 d2 HR UF;go_wp2
       go_roundw
       case rel=>exact⟨i+1,cnt+1,_,_,ω,by go_num,ω,Tv⟩
       case measure=>simp[intOf];omega
     ·obtain rfl:n=i:=ω
      have Q3m:¬(n:Int)<(n:Int):=ω
      have Tv:Hid ((Below g W wr∧QH wr g (Zb g Hb::Dn s N gw gt cnt f v E))∧bu g N pp sa sb (sd+1) Hb (Dn s N gw gt cnt f v E)):=by
       refine⟨⟨HR.out.1,?_⟩,?_⟩
       ·have h1:=HR.out.2.all;unfold Dn;rw[HN.out];have e1:GH s n=fun m=>s.wh m:=by rw[←HN.out];rfl
        rw[e1]at h1;refine h1.perm ?_;exact List.perm_middle (l₁:=Zm prog 3 Zu gw cnt f::Qw N v fun m=>s.wh m)
       ·have hat:=HR.out.2.at_;have h1:=HSt.out;have hc:=Pv.out;have g1:=jm.out;have g2:=P7.out;have:sd=0∨sd=1:=ω
        rcases this with rfl|rfl
        ·obtain⟨ec,eE⟩:=h1;subst ec eE;have hsa:sa=s:=Pp.out;subst hsa;refine⟨gw,gt,cnt,f,v,⟨g1,g2⟩,?_,rfl,hat⟩;exact c129
        ·obtain⟨gw0,qh,dX,f0,v0,⟨g3,g4⟩,ec,eE,xW⟩:=h1;subst ec eE;have Hw:sb=s:=Pp.out;subst Hw;refine⟨gw0,qh,dX,f0,v0,gw,gt,cnt,f,v,⟨g3,g4,?_,g2⟩,?_,rfl,xW,hat⟩
         ·exact aI.out qh ⟨sa.n,by unfold Dn;simp⟩
         ·exact c129
      clear HR;go_wp2
      go_roundw
      case rel=>exact⟨sd+1,Hb,_,ω,by go_num,Tv⟩
      case measure=>simp[intOf];omega
   ·obtain rfl:sd=2:=ω
    have hlt':¬((2:Nat):Int)<2:=ω
    obtain⟨gw,gt,cnt,f,v,Td,Rm,cnt',f',v',⟨o1,o2,o3,o4⟩,qo,eE,hat,hat'⟩:=HS.out.2;have JM:Hid (∃S,(w.heap.size≤gt∧w.heap.size≤Rm)∧MS wr S g gt Rm sa sb (Kz sa sb)):=by
     have hF:=HS.out.1.2;have Hz:=Rb.out;rw[qo,eE,←Hz]at hF;have dD:=HS.out.1.1;have hG1:=uR.out;have We:=BD.out;have FP:=Ir.out;have Dp:=hF.lt (XG ..) (k:=g) rfl
     -- where qi stands
     have e0:(Zb g ([a0,a1,a2,a3,b0,b1,b2,b3,ς (some ⟨gM,oM,none⟩) 2 CM]++[.map (some gw),.map (some Td),Kk gt sa.n,Kk Rm sb.n])::Dn sb N Td Rm cnt' f' v' (Dn sa N gw gt cnt f v [])) =
      (Zb g ([a0,a1,a2,a3,b0,b1,b2,b3,ς (some ⟨gM,oM,none⟩) 2 CM]++[.map (some gw),.map (some Td),Kk gt sa.n,Kk Rm sb.n])::Zm prog 3 Zu Td cnt' f'::(Qw N v' (fun m=>sb.wh m)++(Zm prog 3 Zu gw cnt f::(Qw N v (fun m=>sa.wh m)++([Xr gt sa.n sa.n]++[Xr Rm sb.n sb.n]))))):=by
      unfold Dn;simp only[List.nil_append,List.cons_append,JZ]
     rw[e0]at hF;generalize hR:(Zb g ([a0,a1,a2,a3,b0,b1,b2,b3,ς (some ⟨gM,oM,none⟩) 2 CM]++[.map (some gw),.map (some Td),Kk gt sa.n,Kk Rm sb.n])::Zm prog 3 Zu Td cnt' f'::(Qw N v' (fun m=>sb.wh m)++(Zm prog 3 Zu gw cnt f::(Qw N v (fun m=>sa.wh m)++([Xr gt sa.n sa.n]++[Xr Rm sb.n sb.n])))))=R at hF;have r0:R[0]?=some (Zb g ([a0,a1,a2,a3,b0,b1,b2,b3,ς (some ⟨gM,oM,none⟩) 2 CM]++[.map (some gw),.map (some Td),Kk gt sa.n,Kk Rm sb.n])):=by rw[←hR];rfl
     have r1:R[1]?=some (Zm prog 3 Zu Td cnt' f'):=by rw[←hR];rfl
     have r2:∀m,m<N→R[1+m+1]? = some (Qb 3 1 (v' m) (sb.wh m).length (iV (ints (sb.wh m)))):=fun m hm=>by
      rw[←hR,show 1+m+1=m+1+1 by omega,GV,GV,PX (by rw[Qe];exact hm)];exact Vs _ _ hm
     have r3:R[N+2]?=some (Zm prog 3 Zu gw cnt f):=by rw[←hR,GV,GV,GK (by rw[Qe];exact QI _),Qe,Nat.sub_self];rfl
     have r4:∀m,m<N→R[N+2+m+1]? = some (Qb 3 1 (v m) (sa.wh m).length (iV (ints (sa.wh m)))):=fun m hm=>by
      rw[←hR,show N+2+m+1=(N+(m+1))+1+1 by omega,GV,GV,GK (by rw[Qe];omega),Qe,Nat.add_sub_cancel_left,GV,PX (by rw[Qe];exact hm)];exact Vs _ _ hm
     have r5:R[N+N+3]?=some (Xr gt sa.n sa.n):=by rw[←hR,show N+N+3=(N+(N+0+1))+1+1 by omega,GV,GV,GK (by rw[Qe];omega),Qe,Nat.add_sub_cancel_left,GV,GK (by rw[Qe];omega),Qe,Nat.sub_self];rfl
     have r6:R[N+N+4]?=some (Xr Rm sb.n sb.n):=by rw[←hR,show N+N+4=(N+(N+1+1))+1+1 by omega,GV,GV,GK (by rw[Qe];omega),Qe,Nat.add_sub_cancel_left,GV,GK (by rw[Qe];omega),Qe,Nat.add_sub_cancel_left];rfl
     have l5:=hF.lt (JK r5) (k:=gt) rfl;have l6:=hF.lt (JK r6) (k:=Rm) rfl;have l1:=hF.lt (JK r1) (k:=Td) rfl;have l3:=hF.lt (JK r3) (k:=gw) rfl
     have Dx:∀b,In w.heap.size g b→(fun q=>w.heap.size≤q∧q<wr.heap.size∧q≠gt∧q≠Rm) b:=fun b hb=>by
      have h1:=hb.1;have h2:=hb.2;exact⟨h1,ω,ω,ω⟩
     have Pc:∀b,In w.heap.size g b→wr.heap[b]?=W.heap[b]?:=fun b hb=>dD.block b hb.2
     refine⟨fun q=>w.heap.size≤q∧q<wr.heap.size∧q≠gt∧q≠Rm,⟨ω,ω⟩,?_⟩;have hsa:=Hh.out;have Hw:=HSB.out;have xZ:sa.T=T0:=by rw[←hsa];rfl
     have xY:sb.T=T1:=by rw[←Hw];rfl
     refine⟨⟨⟨hG1,Dp.2,ω,ω⟩,?_,?_,?_,⟨gw,hF.cell r0 (j:=9) rfl,?_⟩,⟨Td,hF.cell r0 (j:=10) rfl,?_⟩⟩,⟨sa.n,hF.cell r0 (j:=11) rfl⟩,⟨sb.n,hF.cell r0 (j:=12) rfl⟩,Ī hF r5,Ī hF r6,List.length_replicate,List.length_replicate,ω,fun q hq=>⟨hq.2.1,hq.2.2.1,hq.2.2.2⟩⟩
     ·exact ā (S0:=In w.heap.size g) (by rw[xZ];exact We.1) Pc Dx (hF.cell r0 (j:=0) rfl) (hF.cell r0 (j:=1) rfl) (hF.cell r0 (j:=2) rfl) (hF.cell r0 (j:=3) rfl)
     ·exact ā (S0:=In w.heap.size g) (by rw[xY];exact We.2.1) Pc Dx (hF.cell r0 (j:=4) rfl) (hF.cell r0 (j:=5) rfl) (hF.cell r0 (j:=6) rfl) (hF.cell r0 (j:=7) rfl)
     ·refine⟨some ⟨gM,oM,none⟩,CM,hF.cell r0 (j:=8) rfl,?_⟩;have h1:=(We.2.2.keep Pc).more Dx;rw[←KA.out,hsa,Hw]at h1;exact h1
     ·exact ň hF r3 r4 Ir.out hat ⟨ω,l3.2,ω,ω⟩ fun m gR hm hb=>by
       have h1:=hF.lt (JK (r4 m hm)) hb;exact⟨ω,h1.2,U0 hF (r4 m hm) r5 ω hb rfl,U0 hF (r4 m hm) r6 ω hb rfl⟩
     ·exact ň hF r1 r2 Ir.out hat' ⟨ω,l1.2,ω,ω⟩ fun m gR hm hb=>by
       have h1:=hF.lt (JK (r2 m hm)) hb;exact⟨ω,h1.2,U0 hF (r2 m hm) r5 ω hb rfl,U0 hF (r2 m hm) r6 ω hb rfl⟩
    have UQ:Hid (Below w.heap.size w wr):=YR.out.trans (HS.out.1.1.mono uR.out);clear HS hat hat' qo eE;go_wp2;go_ret;obtain⟨S,h1,h2⟩:=JM.out;rw[YB.out,GF.out,Hh.out,HSB.out];exact⟨UQ.out,g,gt,Rm,S,rfl,h1,h2⟩
