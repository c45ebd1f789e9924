import Derived.Test.YtmepekognmlblaaGreatDoorS38
set_option maxHeartbeats 64000000
set_option maxRecDepth 100000
set_option linter.unusedVariables false
open Go.Proofs.Tryz Go.ChangeShapes Go.WideShapes Go.ChangeAt Go.RowKit
open Go.Lib renaming hid→QA
open _root_.Nat renaming le_trans→QW,zero_le→ZR
open _root_.List renaming getElem?_eq_getElem→QN,getD_eq_getElem?_getD→QX,mem_cons_self→XG,length_map→VD
open Go.World renaming block_lt_of_cell?→VJ,cell?_of_block→JW
open Go.IntKind renaming i64→γ
open Go.Value renaming slice→ς,pointer→π
open Go.Obj renaming cells→θ
open Go.Ending renaming returned→ρ
namespace Go.Proofs.YtmepekognmlblaaGreatDoor
namespace Match
open Mem Tree Shape
variable {w:World}{S:Nat→Prop}{g gA gB:Nat}{a b:Sd}{M:St}
def dI{κ:Type}[DecidableEq κ](ks:List κ)(k:κ):Nat:=ks.idxOf k
theorem Qyz{κ:Type}[DecidableEq κ]{ks:List κ}{k:κ}(h:k∈ks):dI ks k<ks.length:=List.idxOf_lt_length_of_mem h
theorem Qwg{κ:Type}[DecidableEq κ]{ks:List κ}{k k0:κ}(h:k∈ks):ks.getD (dI ks k) k0=k:=Qwm k0 h
def YN(ks:List Ky)(k:Ky):Nat:=dI ks k
theorem bU{ks:List Ky}{k:Ky}(h:k∈ks):YN ks k<ks.length:=Qyz h
theorem yH{ks:List Ky}{k:Ky}(h:k∈ks):ks.getD (YN ks k) Hv=k:=Qwg h
structure Sh(w:World)(S:Nat→Prop)(g sd:Nat)(s:Sd):Prop where
 plan:∃AN CN AP CP AZ CZ gK oK CK A C,(w.cell? ⟨g,4*sd,none⟩=some (ς AN s.n CN)∧w.cell? ⟨g,4*sd+1,none⟩=some (ς AP s.n CP)∧w.cell? ⟨g,4*sd+2,none⟩=some (ς AZ s.n CZ)∧w.cell? ⟨g,4*sd+3,none⟩=some (ς (some ⟨gK,oK,none⟩) s.n CK))∧w.cell? ⟨gK,oK,none⟩=some (ς A (s.kid 0).length C)∧Qu w S (ς A (s.kid 0).length C) (s.kid 0)
 key:∀W,Below w.heap.size w W→∀p∈s.kid 0,Calls prog 44 #[π (some ⟨g,0,none⟩),.int γ (sd:Int),.int γ (p:Int)] W (fo W (keyOf s p))
 len:(s.kid 0).length≤20000
theorem ś{o:Nat}{s:Sd}(h:Je w S g o s)(hp:s.Ok):∃AN CN AP CP AZ CZ gK oK CK A C,(w.cell? ⟨g,o,none⟩=some (ς AN s.n CN)∧w.cell? ⟨g,o+1,none⟩=some (ς AP s.n CP)∧w.cell? ⟨g,o+2,none⟩=some (ς AZ s.n CZ)∧w.cell? ⟨g,o+3,none⟩=some (ς (some ⟨gK,oK,none⟩) s.n CK))∧w.cell? ⟨gK,oK,none⟩=some (ς A (s.kid 0).length C)∧Qu w S (ς A (s.kid 0).length C) (s.kid 0):=by
 obtain⟨gK,oK,CK,A,C,k0,k1,k2,k3,k4⟩:=h.kids hp.pos;obtain⟨AN,CN,AP,CP,AZ,CZ,AK,CK',⟨c0,c1,c2,c3⟩,_⟩:=h;exact⟨AN,CN,AP,CP,AZ,CZ,gK,oK,CK,A,C,⟨c0,c1,c2,k0⟩,k1,A,C,rfl,k2,k3,k4⟩
theorem Qyv(h:MS w S g gA gB a b M)(hf:Fit a b)(h7:∀p∈a.kid 0,(a.at_ p).k=7→0<(a.kid p).length):Sh w S g 0 a :=
 ⟨ś h.ro.pa hf.nums.EG,fun W hb p hp=>ĥ (h.later hb) hf p (Z1 p hp) (h7 p hp),QW (Uw a 0) hf.na⟩
theorem Qyu(h:MS w S g gA gB a b M)(hf:Fit a b)(h7:∀p∈b.kid 0,(b.at_ p).k=7→0<(b.kid p).length):Sh w S g 1 b :=
 ⟨ś h.ro.pb hf.nums.Hq,fun W hb p hp=>Qs4 (h.later hb) hf p (Z1 p hp) (h7 p hp),QW (Uw b 0) hf.nb⟩
theorem Qzy(h0:Sh w S g 0 a)(h1:Sh w S g 1 b)(sd:Nat)(h:sd<2):Sh w S g sd (YE a b sd):=by
 have:sd=0∨sd=1:=ω
 rcases this with rfl|rfl
 ·exact h0
 ·exact h1
theorem Qb1(x0 x1 x2 x3 x4 x5 x6 x7:Value)(W:World):(Instr.index 61 (.agg #[x0,x1,x2,x3,x4,x5,x6,x7]) (.int γ 0)).run prog W=.ok (.agg #[x0,x1,x2,x3]) W∧(Instr.index 61 (.agg #[x0,x1,x2,x3,x4,x5,x6,x7]) (.int γ 1)).run prog W=.ok (.agg #[x4,x5,x6,x7]) W:=⟨χ,χ⟩
def Qzg(w:World)(S:Nat→Prop)(v:Value)(sd:Nat)(s:Sd):Prop :=
 ∃B0 n0 D0 B1 n1 D1 B2 n2 D2 gK oK CK A C,(∀W,(Instr.index 61 v (.int γ (sd:Int))).run prog W=.ok (.agg #[ς B0 n0 D0,ς B1 n1 D1,ς B2 n2 D2,ς (some ⟨gK,oK,none⟩) s.n CK]) W)∧w.cell? ⟨gK,oK,none⟩=some (ς A (s.kid 0).length C)∧Qu w S (ς A (s.kid 0).length C) (s.kid 0)
theorem ZQ.IV{κ:Type}{kt t:TypeId}{lit:κ→Lit}{D:κ→Prop}{ix:κ→Nat}{N B gm cnt:Nat}{W0 W:World}{f:Lit→Value}{v:Nat→Value}{L:Nat→List Nat}(h:ZQ kt lit D ix N B W0 gm cnt f v L)(K:Maps.Keyed prog kt)(ht:prog.underlying t=some (.map kt 58)){k:κ}(hk:D k){key:Value}(hkey:Go.keyOf prog kt key=some (lit k))(hW:∀q,B≤q→q<W0.heap.size→W.heap[q]?=W0.heap[q]?) :
 (Instr.lookup t (.map (some gm)) key false).run prog W=.ok (.agg #[v (2*ix k),v (2*ix k+1)]) W:=by
 have hmap:Vj W0 prog kt (two (ς none 0 0) (ς none 0 0)) gm cnt f:=h.all.get (i:=0) rfl;have hg:=h.all.lt (XG ..) (k:=gm) rfl;have:=Vj.look (t:=t) (e:=58) (hmap.of_block (hW gm hg.1 hg.2)) K ht (iD W) hkey;rw[this,h.at_ k hk];rfl
theorem Ql3(a b:Sd)(M:St)(x:Nat)(r:List Nat):Zw a b M (x::r)=match keyOf a x with
 |none=>Zw a b M r
 |some k=>if(items a k).length=1∧(items b k).length=1 then Zw a b (QK a b M x ((items b k).getD 0 0)) r else Zw a b M r:=rfl
theorem Qtn{l:List Nat}{i:Nat}(h:i<l.length):l.drop i=l.getD i 0::l.drop (i+1):=by
 rw[QX,QN h,Option.getD_some];exact List.drop_eq_getElem_cons h
theorem Qj1(h:MS w S g gA gB a b M)(hf:Fit a b)(cU:∀p∈a.kid 0,(a.at_ p).k=7→0<(a.kid p).length)(VL:∀p∈b.kid 0,(b.at_ p).k=7→0<(b.kid p).length)(hks:∀k∈jW a b,FY k) :
 Calls prog 29 #[π (some ⟨g,0,none⟩)] w (Js S g gA gB a b w (Zw a b M (a.kid 0))):=by
 have JL:=QA h;have HF:=QA hf;have sJ:=QA (Qyv h hf cU);have wL:=QA (Qyu h hf VL);have Bd:=QA hks;have HA7:=QA cU;obtain⟨ks,ZW⟩:=Mem.QD (jW a b);have ji:=QA ZW;rw[ZW]at Bd;have hstart:=ZQ.start 73 GQ (·∈ks) (YN ks) ks.length w;rw[←Qs9 (ix:=(YN ks)) (dec:=(ks.getD · Hv)) (a:=a) (b:=b)]at hstart;have HST:Hid (Below w.heap.size w (w.alloc (.map #[] 0))∧_):=⟨Qz w (.map #[] 0),hstart⟩;have mk:(Instr.makeMap 71 none).run prog w=.ok (.map (some w.heap.size)) (w.alloc (.map #[] 0)):=by rw[run_makeMap]
 obtain⟨AN0,CN0,AP0,CP0,AZ0,CZ0,dK,tV,S6,A0,C0,⟨jS,jR,jQ,jP⟩,N5,N4⟩:=sJ.out.plan;obtain⟨AN1,CN1,AP1,CP1,AZ1,CZ1,dJ,tU,kp,A1,C1,⟨jO,jN,jM,jL⟩,pk1,pr1⟩:=wL.out.plan
 have uO:Hid (∀sd,sd<2→Qzg w S (.agg #[ς AN0 a.n CN0,ς AP0 a.n CP0,ς AZ0 a.n CZ0,ς (some ⟨dK,tV,none⟩) a.n S6,ς AN1 b.n CN1,ς AP1 b.n CP1,ς AZ1 b.n CZ1,ς (some ⟨dJ,tU,none⟩) b.n kp]) sd (YE a b sd)):=fun sd Oa=>by
  have:sd=0∨sd=1:=ω
  rcases this with rfl|rfl
  ·exact⟨_,_,_,_,_,_,_,_,_,dK,tV,S6,A0,C0,fun W=>(Qb1 _ _ _ _ _ _ _ _ W).1,N5,N4⟩
  ·exact⟨_,_,_,_,_,_,_,_,_,dJ,tU,kp,A1,C1,fun W=>(Qb1 _ _ _ _ _ _ _ _ W).2,pk1,pr1⟩
 simp only[Nat.mul_zero,Nat.zero_add,Nat.mul_one,Nat.reduceAdd]at jS jR jQ jP jO jN jM jL;have HP:=QA (And.intro jS (And.intro jR (And.intro jQ jP)));have HQ:=QA (And.intro jO (And.intro jN (And.intro jM jL)));have EO:=QA (And.intro N5 N4);have q00:=(HST.out.1.cell (VJ _ _ jS)).trans jS;have q01:=(HST.out.1.cell (VJ _ _ jR)).trans jR;have q02:=(HST.out.1.cell (VJ _ _ jQ)).trans jQ;have q03:=(HST.out.1.cell (VJ _ _ jP)).trans jP;have tL:=(HST.out.1.cell (VJ _ _ jO)).trans jO;have tJ:=(HST.out.1.cell (VJ _ _ jN)).trans jN;have jx:=(HST.out.1.cell (VJ _ _ jM)).trans jM;have tI:=(HST.out.1.cell (VJ _ _ jL)).trans jL;clear h hf cU VL hks ZW hstart jS jR jQ jP jO jN jM jL;go_enter func29,ntmps29
 go_upto_region 1 with(fail)
 generalize w.alloc (.map #[] 0)=w1 at *;clear mk;generalize Dl:w.heap.size=gm at HST⊢;have Ru:=QA Dl;clear Dl;go_wp2;generalize(Value.agg #[ς AN0 a.n CN0,ς AP0 a.n CP0,ς AZ0 a.n CZ0,ς (some ⟨dK,tV,none⟩) a.n S6,ς AN1 b.n CN1,ς AP1 b.n CP1,ς AZ1 b.n CZ1,ς (some ⟨dJ,tU,none⟩) b.n kp])=vpl at *;clear q00 q01 q02 q03 tL tJ jx tI
 go_loopw [20] (fun SJ wr=>∃(sd cnt:Nat)(f:Lit→Value)(v:Nat→Value),sd≤2∧SJ=.int γ (sd:Int)∧cnt≤sd*20000∧Hid (Below gm w wr∧ZQ 73 GQ (·∈ks) (YN ks) ks.length gm wr gm cnt f v (UI (YN ks) (ks.getD · Hv) a b sd 0))) (fun s _=>2-(intOf s).toNat)
 case atStart=>exact⟨0,0,_,_,ω,rfl,ω,HST⟩
 case round =>
  clear HST;obtain⟨sd,cnt,f,v,Oa,rfl,GU,HR⟩:=hrel;by_cases hlt:sd<2
  ·have hlt':(sd:Int)<2:=ω
   have kI:(0:Int)≤(sd:Int):=ω
   obtain⟨B0,n0,D0,B1,n1,D1,B2,n2,D2,gK,oK,CK,A,C,Bp,hk,hrow⟩:=uO.out sd hlt;have ix:=Bp wr;obtain⟨s,hs⟩:=Mem.QD (YE a b sd);have Pp:=QA hs;have wK:=QA (Qzy sJ.out wL.out sd hlt);rw[hs]at wK hk hrow ix;have Q1h:0<s.n:=by
    have:sd=0∨sd=1:=ω
    rcases this with rfl|rfl
    ·rw[←hs];exact HF.out.nums.EG.pos
    ·rw[←hs];exact HF.out.nums.Hq.pos
   clear Bp hs
   go_upto_region 4 with(fail)
   have JF:=Qz wr (θ #[ς B0 n0 D0,ς B1 n1 D1,ς B2 n2 D2,ς (some ⟨gK,oK,none⟩) s.n CK] 59);have Nx:=(QH.nil wr).box (e:=59) (sz:=4) #[ς B0 n0 D0,ς B1 n1 D1,ς B2 n2 D2,ς (some ⟨gK,oK,none⟩) s.n CK] 1 (by unfold maxLen;omega) rfl;have x3:=Nx.cell (i:=0) rfl (j:=3) rfl;have Dk:gm≤wr.heap.size:=QW (Nat.le_of_eq Ru.out.symm) HR.out.1.size;have YQ:Hid (Below gm w (wr.alloc (θ #[ς B0 n0 D0,ς B1 n1 D1,ς B2 n2 D2,ς (some ⟨gK,oK,none⟩) s.n CK] 59))∧ZQ _ _ _ _ _ _ (wr.alloc (θ #[ς B0 n0 D0,ς B1 n1 D1,ς B2 n2 D2,ς (some ⟨gK,oK,none⟩) s.n CK] 59)) _ _ _ _ _):=⟨HR.out.1.trans (JF.mono Dk),HR.out.2.later JF⟩;generalize wr.alloc (θ #[ς B0 n0 D0,ς B1 n1 D1,ς B2 n2 D2,ς (some ⟨gK,oK,none⟩) s.n CK] 59)=w2 at *;clear JF Nx Dk ix;generalize wr.heap.size=gx at *;have xm:=VJ _ _ hk;have hk2:=(YQ.out.1.cell (by rw[←Ru.out];exact xm)).trans hk;obtain⟨lr,hlr⟩:=Mem.QD ((s.kid 0).length);have jc:=QA hlr;have Wu:lr≤20000:=by rw[←hlr];exact wK.out.len
   rw[hlr]at hk hk2 hrow;have XP:=QA hrow;clear hk hrow hlr HR;go_wp2;clear x3 hk2
   go_loopw [29] (fun s29 wr=>∃(i cnt:Nat)(f:Lit→Value)(v:Nat→Value),i≤lr∧s29=.int γ (i:Int)∧cnt≤sd*20000+i∧Hid (Below gm w wr∧ZQ 73 GQ (·∈ks) (YN ks) ks.length gm wr gm cnt f v (UI (YN ks) (ks.getD · Hv) a b sd i))) (fun s _=>lr-(intOf s).toNat)
   case atStart=>exact⟨0,cnt,f,v,ZR _,rfl,ω,YQ⟩
   case round =>
    clear YQ GU;obtain⟨i,cnt,f,v,hi,rfl,GU,HR⟩:=hrel;by_cases hil:i<lr
    ·have Q3m:(i:Int)<(lr:Int):=ω
     have hi0:(0:Int)≤(i:Int):=ω
     have hik:i<(s.kid 0).length:=by rw[jc.out];exact hil
     have OY:=QA hik;obtain⟨gr,o,Cr,er,d1⟩:=XP.out.at_ (i:=i) hik;injection er with e1 e2 e3;subst e1;subst e3;clear e2;obtain⟨x,hx⟩:=Mem.QD ((s.kid 0).getD i 0);have HX:=QA hx;have hxk:x∈s.kid 0:=by rw[←hx,QX,QN hik];exact List.getElem_mem _
     rw[hx]at d1;have d1:=(HR.out.1.cell (by rw[←Ru.out];exact VJ _ _ d1)).trans d1;have ZT:Below w.heap.size w wr:=by rw[Ru.out];exact HR.out.1
     have Pq:=QA (wK.out.key wr ZT x hxk);obtain⟨ko,hko⟩:=Mem.QD (keyOf s x);have SE:=QA hko;have HXK:=QA hxk;rw[hko]at Pq
     have Dd:∀k,ko=some k→k∈ks:=fun k hk=>by
      rw[←ji.out];rw[←hko]at hk;have:sd=0∨sd=1:=ω
      rcases this with rfl|rfl
      ·have:=Pp.out;subst this;exact Á hxk hk
      ·have:=Pp.out;subst this;exact Qzw hxk hk
     have jh:=QA Dd;have Dk:gm≤wr.heap.size:=QW (Nat.le_of_eq Ru.out.symm) HR.out.1.size;have xd:i<((YE a b sd).kid 0).length:=by rw[Pp.out];exact hik
     have hxs:keyOf (YE a b sd) (((YE a b sd).kid 0).getD i 0)=ko:=by rw[Pp.out,hx];exact hko
     have rN:=QA (And.intro xd hxs);clear hx hik hko ZT hxk Dd xd hxs;cases ko with
     |none =>
      have Lp:Hid (Calls prog 44 #[π (some ⟨g,0,none⟩),.int γ (sd:Int),.int γ (x:Int)] wr fun e w'=>Below wr.heap.size wr w'∧e=ρ (.tuple #[.agg #[.int γ 0,.string ⟨#[]⟩,.int γ 0],.bool false])):=Pq.out;clear Pq;go_wp2_with fail;refine Lp.out.mono ?_;rintro e w6 ⟨VH,rfl⟩;have Tv:Hid (∀W,Below w6.heap.size w6 W→Below gm w W∧ZQ 73 GQ (·∈ks) (YN ks) ks.length gm W gm cnt f v (UI (YN ks) (ks.getD · Hv) a b sd (i+1))):=by intro W hW;have VL:=VH.trans (hW.mono VH.size);refine⟨HR.out.1.trans (VL.mono Dk),?_⟩;rw[Qta rN.out.1 hlt rN.out.2];exact HR.out.2.later VL
      clear VH Lp d1 HR Dk;go_wp2
      go_roundw
      case rel=>exact⟨i+1,cnt,f,v,ω,by go_num,ω,Tv.out _ (Qz w6 _)⟩
      case measure=>simp[intOf];omega
     |some k =>
      obtain⟨k1,xx,r⟩:=k;have Lp:Hid (Calls prog 44 #[π (some ⟨g,0,none⟩),.int γ (sd:Int),.int γ (x:Int)] wr fun e w'=>Below wr.heap.size wr w'∧e=ρ (.tuple #[.agg #[.int γ k1,.string xx,.int γ r],.bool true])):=Pq.out;have hkk:=jh.out (k1,xx,r) rfl;obtain⟨Lf,lL⟩:=Mem.QD (UI (YN ks) (ks.getD · Hv) a b sd i);have ze:=QA lL;have hll:∀j,(Lf j).length≤20000:=fun j=>by rw[←lL];exact Qwc sJ.out.len wL.out.len j
      rw[lL]at HR;clear Pq lL;go_wp2_with fail;refine Lp.out.mono ?_;rintro e w6 ⟨VH,rfl⟩;have UF:Hid (Below gm w w6∧ZQ 73 GQ (·∈ks) (YN ks) ks.length gm w6 gm cnt f v Lf):=⟨HR.out.1.trans (VH.mono Dk),HR.out.2.later VH⟩;clear VH Lp d1 HR Dk
      go_upto_region 9 with(fail)
      have VL:=Qz w6 (θ #[.int γ k1,.string xx,.int γ r] 73);have lH:gm≤w6.heap.size:=QW (Nat.le_of_eq Ru.out.symm) (by have:=UF.out.1.size;exact this);have A9:=UF.out.2.all.box (e:=73) (sz:=3) #[.int γ k1,.string xx,.int γ r] 1 (by unfold maxLen;omega) rfl;have BB:Hid (Below gm w (w6.alloc (θ #[.int γ k1,.string xx,.int γ r] 73))∧ZQ 73 GQ (·∈ks) (YN ks) ks.length gm (w6.alloc (θ #[.int γ k1,.string xx,.int γ r] 73)) gm cnt f v Lf):=⟨UF.out.1.trans (VL.mono lH),UF.out.2.later VL⟩;have hbk:=(QH.nil w6).box (e:=73) (sz:=3) #[.int γ k1,.string xx,.int γ r] 1 (by unfold maxLen;omega) rfl;have y0:=hbk.cell (i:=0) rfl (j:=0) rfl;have y1:=hbk.cell (i:=0) rfl (j:=1) rfl;have y2:=hbk.cell (i:=0) rfl (j:=2) rfl;generalize w6.alloc (θ #[.int γ k1,.string xx,.int γ r] 73)=w7 at *;clear VL lH hbk UF;generalize w6.heap.size=g7 at *;obtain⟨m,hm⟩:=Mem.QD (YN ks (k1,xx,r));have HM:=QA hm;have Sw:m<ks.length:=by rw[←hm];exact bU hkk
      have hkey:Go.keyOf prog 73 (.agg #[.int γ k1,.string xx,.int γ r])=some (GQ (k1,xx,r)):=yI (Bd.out _ hkk);have hlk:=BB.out.2.look (t:=71) Gr underlying71 (k:=(k1,xx,r)) hkk hkey;have hlk:(Instr.lookup 71 (.map (some gm)) (.agg #[.int γ k1,.string xx,.int γ r]) false).run prog w7=.ok (.agg #[v (2*m),v (2*m+1)]) w7:=by rw[←hm];exact hlk
      obtain⟨Aa,Ca,ea,qa,_⟩:=(BB.out.2.row (j:=2*m) ω).slice;obtain⟨Ab,Cb,eb,qb,_⟩:=(BB.out.2.row (j:=2*m+1) ω).slice;rw[ea,eb]at hlk;have ml:(sd:Int)<2:=ω
      go_upto_region 10 with(fail)
      clear hlk;obtain⟨Aj,Cj,ej,_,_⟩:=(BB.out.2.row (j:=2*m+sd) ω).slice;obtain⟨lj,YI⟩:=Mem.QD ((Lf (2*m+sd)).length);have NW:=QA YI;rw[YI]at ej;have mP:lj≤20000:=by rw[←YI];exact hll _
      have lR:=(A9.box (e:=58) (sz:=2) #[ς Aa (Lf (2*m)).length Ca,ς Ab (Lf (2*m+1)).length Cb] 1 (by unfold maxLen;omega) rfl).perm (R':=(Zm prog 73 (two (ς none 0 0) (ς none 0 0)) gm cnt f::Qw (2*ks.length) v Lf)++(Qb 58 2 (ς (some ⟨w7.heap.size,0,none⟩) 1 1) 1 [v (2*m),v (2*m+1)]::[Qb 73 3 (ς (some ⟨g7,0,none⟩) 1 1) 1 [.int γ k1,.string xx,.int γ r]])) (by rw[ea,eb,List.append_assoc];exact List.Perm.append_left _ (List.Perm.swap _ _ _));have YJ:=Qz w7 (θ #[ς Aa (Lf (2*m)).length Ca,ς Ab (Lf (2*m+1)).length Cb] 58);have hg7:gm≤w7.heap.size:=QW (Nat.le_of_eq Ru.out.symm) (by have:=BB.out.1.size;exact this);have Hm:Hid (Below gm w (w7.alloc (θ #[ς Aa (Lf (2*m)).length Ca,ς Ab (Lf (2*m+1)).length Cb] 58))):=BB.out.1.trans (YJ.mono hg7);generalize w7.alloc (θ #[ς Aa (Lf (2*m)).length Ca,ς Ab (Lf (2*m+1)).length Cb] 58)=w8 at *;generalize w7.heap.size=g8 at *;have Px:=QA BB.out.2.at_;have RN:((Zm prog 73 (two (ς none 0 0) (ς none 0 0)) gm cnt f::Qw (2*ks.length) v Lf)++(Qb 58 2 (ς (some ⟨g8,0,none⟩) 1 1) 1 [v (2*m),v (2*m+1)]::[Qb 73 3 (ς (some ⟨g7,0,none⟩) 1 1) 1 [.int γ k1,.string xx,.int γ r]]))[2*ks.length+1]?=some (Qb 58 2 (ς (some ⟨g8,0,none⟩) 1 1) 1 [v (2*m),v (2*m+1)]):=by rw[List.getElem?_append_right (by rw[List.length_cons,Qe];exact Nat.le_refl _),List.length_cons,Qe,Nat.sub_self];rfl
      have hcell:w8.cell? ⟨g8,sd,none⟩=some (ς Aj lj Cj):=by
       rw[←ej];have RY:sd=0∨sd=1:=ω
       rcases RY with rfl|rfl
       ·exact lR.cell RN (j:=0) rfl
       ·exact lR.cell RN (j:=1) rfl
      have PK:((Zm prog 73 (two (ς none 0 0) (ς none 0 0)) gm cnt f::Qw (2*ks.length) v Lf)++(Qb 58 2 (ς (some ⟨g8,0,none⟩) 1 1) 1 [v (2*m),v (2*m+1)]::[Qb 73 3 (ς (some ⟨g7,0,none⟩) 1 1) 1 [.int γ k1,.string xx,.int γ r]]))[2*m+sd+1]?=some (Qb 3 1 (ς Aj lj Cj) lj (iV (ints (Lf (2*m+sd))))):=by rw[List.cons_append,List.getElem?_cons_succ,List.getElem?_append_left (by rw[Qe];omega),Vs _ _ (by omega:2*m+sd<2*ks.length),ej,NW.out]
      have BI:=QA lR;have HK8:=QA PK;have HKEY:=QA hkey;obtain⟨i0,KZ,hz0,hz1,hz2⟩:=info_parts Zq;clear YJ lR PK RN A9 BB ea eb qa qb ej YI hkey y0 y1 y2;go_wp2_with (at_builtin;refine K7 (i:=2*m+sd+1) BI.out HK8.out rfl _ _ rfl underlying32 KZ hz0 hz1 hz2 rfl δ rfl _ 1 ψ rfl rfl ω ?_);intro v' w9 zY U';have hput:=ZQ.put (X:=[Qb 73 3 (ς (some ⟨g7,0,none⟩) 1 1) 1 [.int γ k1,.string xx,.int γ r]]) (t:=71) (ix:=YN ks) (D:=(·∈ks)) (k:=(k1,xx,r)) (p:=x) (sd:=sd) (m:=m) (g13:=g8) (N:=ks.length) (v:=v) (L:=Lf) Gr underlying71 hkk HKEY.out (fun k' hk' e=>Qs0 (Bd.out _ hkk) (Bd.out _ hk') e) (fun k' hk' e=>É (ix:=YN ks) (dec:=(ks.getD · Hv)) (yH hkk) (yH hk') e) HM.out Sw hlt (by omega:cnt≤1000000) (by rw[NW.out];exact zY) Px.out;rw[NW.out]at hput;obtain⟨⟨u,hu⟩,hfz,⟨A',C',rfl⟩,Aa',na,Ca',Ab',nb,Cb',z0,z1,zX,UT,mr,UA,f',Fm⟩:=hput;have y0:=zX.cell (i:=0) rfl (j:=0) rfl;have y1:=zX.cell (i:=0) rfl (j:=1) rfl;have y2:=zX.cell (i:=0) rfl (j:=2) rfl;have Tv:Hid (Below gm w UT∧ZQ 73 GQ (·∈ks) (YN ks) ks.length gm UT gm (cnt+1) f' (upd v (2*m+sd) (ς A' (lj+1) C')) (UI (YN ks) (ks.getD · Hv) a b sd (i+1))):=by refine⟨(Hm.out.trans U').trans UA,?_⟩;rw[Qwb rN.out.1 hlt rN.out.2 (yH hkk),HM.out,ze.out,Pp.out,HX.out];exact Fm
      clear zY U' zX UA Fm BI HK8 Px;go_wp2
      go_roundw
      case rel=>exact⟨i+1,cnt+1,f',_,ω,by go_num,ω,Tv⟩
      case measure=>simp[intOf];omega
    ·obtain rfl:lr=i:=ω
     have Q3m:¬(lr:Int)<(lr:Int):=ω
     have HN:Hid (Below gm w wr∧ZQ 73 GQ (·∈ks) (YN ks) ks.length gm wr gm cnt f v (UI (YN ks) (ks.getD · Hv) a b (sd+1) 0)):=by rw[←Qtb,Pp.out,jc.out];exact HR.out
     clear HR;go_wp2
     go_roundw
     case rel=>exact⟨sd+1,cnt,f,v,ω,by go_num,ω,HN⟩
     case measure=>simp[intOf];omega
  ·obtain rfl:sd=2:=ω
   have hlt':¬((2:Nat):Int)<2:=ω
   have LO:Hid (Below w.heap.size w wr):=by show Below _ _ _;rw[Ru.out];exact HR.out.1
   have Sn:Hid (gA<w.heap.size∧gB<w.heap.size):=by
    constructor
    ·rcases Nat.lt_or_ge gA w.heap.size with h1|h1
     ·exact h1
     ·have:=JL.out.mA;rw[Array.getElem?_eq_none h1]at this;cases this
    ·rcases Nat.lt_or_ge gB w.heap.size with h1|h1
     ·exact h1
     ·have:=JL.out.mB;rw[Array.getElem?_eq_none h1]at this;cases this
   obtain⟨w5,zM⟩:∃w5,w5=wr:=⟨_,rfl⟩;subst zM;have BC:=QA HR.out.2;have p3:=(LO.out.cell (VJ _ _ HP.out.2.2.2)).trans HP.out.2.2.2;have pk:=(LO.out.cell (VJ _ _ EO.out.1)).trans EO.out.1;have hpos:=HF.out.nums.EG.pos;have YB:Hid ((QB gA gB w w5∧MS w5 S g gA gB a b M∧QB gA gB w5 w5)∧Zw a b M ((a.kid 0).drop 0)=Zw a b M (a.kid 0)):=⟨⟨QB.of_below LO.out,JL.out.later LO.out,QB.refl _ _ _⟩,rfl⟩;obtain⟨MR,dw⟩:=Mem.QD (Zw a b M (a.kid 0));have sj:=QA dw;rw[dw]at YB;obtain⟨la,Wt⟩:=Mem.QD ((a.kid 0).length);have uJ:=QA Wt;have Q1k:la≤20000:=by rw[←Wt];exact sJ.out.len
   have Ip:=QA EO.out.2;rw[Wt]at pk Ip;clear dw Wt HR;go_wp2;clear p3 pk
   go_loopw [66] (fun s66 wr=>∃(k:Nat)(M':St),k≤la∧s66=.int γ (k:Int)∧Hid ((QB gA gB w wr∧MS wr S g gA gB a b M'∧QB gA gB w5 wr)∧Zw a b M' ((a.kid 0).drop k)=MR)) (fun s _=>la-(intOf s).toNat)
   case atStart=>exact⟨0,M,ZR _,rfl,YB⟩
   case round =>
    clear YB;obtain⟨k,M',hk,rfl,HT⟩:=hrel;by_cases hkl:k<la
    ·have mV:(k:Int)<(la:Int):=ω
     have ZW:(0:Int)≤(k:Int):=ω
     have hka:k<(a.kid 0).length:=by rw[uJ.out];exact hkl
     obtain⟨gr,o,Cr,er,d1⟩:=Ip.out.at_ (i:=k) hka;injection er with e1 e2 e3;subst e1;subst e3;clear e2;obtain⟨x,hx⟩:=Mem.QD ((a.kid 0).getD k 0);rw[hx]at d1;have hxk:x∈a.kid 0:=by rw[←hx,QX,QN hka];exact List.getElem_mem _
     have hgr:gr<w.heap.size∧gr≠gA∧gr≠gB:=by
      obtain⟨A',C',e',_,_,q3⟩:=Ip.out;rcases q3 with q3|⟨b',o',e1,q4,_⟩
      ·have:=congrArg List.length q3;simp[ints]at this;rw[this]at hka;simp at hka
      ·injection e' with e2;rw[←e2]at e1;injection e1 with e1;injection e1 with e4 e5;subst e4;exact JL.out.safe _ q4
     have d1:=(JW (w:=w) (HT.out.1.1.block gr hgr.1 hgr.2.1 hgr.2.2) (a:=⟨gr,o+k,none⟩)).trans d1;have Bk:x<a.n:=Z1 x hxk;have rO:=QA Bk;have Pq:=QA (ĥ HT.out.1.2.1 HF.out x Bk (HA7.out x hxk));have hdrop:Zw a b M' ((a.kid 0).drop k)=Zw a b M' (x::(a.kid 0).drop (k+1)):=by rw[Qtn hka,hx]
     obtain⟨ko,hko⟩:=Mem.QD (keyOf a x);have hgo:=HT.out.2;rw[hdrop,Ql3,hko]at hgo;have IB:=QA hgo;rw[hko]at Pq
     have Dd:∀k,ko=some k→k∈ks:=fun k hk=>by
      rw[←ji.out];rw[←hko]at hk;exact Á hxk hk
     have jh:=QA Dd;have kZ:Hv∈ks:=by rw[←ji.out];exact XG ..
     have HOWN:Hid (∀W,Below wr.heap.size wr W→(QB gA gB w W∧MS W S g gA gB a b M'∧QB gA gB w5 W)∧∀q,gm≤q→q<w5.heap.size→W.heap[q]? = w5.heap[q]?):=fun W hW=>by
      refine⟨⟨HT.out.1.1.trans (QB.of_below hW),HT.out.1.2.1.later hW,HT.out.1.2.2.trans (QB.of_below hW)⟩,fun q h1 h2=>?_⟩;have h3:gm=w.heap.size:=Ru.out.symm;have:=Sn.out;exact(HT.out.1.2.2.trans (QB.of_below hW)).block q h2 ω ω
     clear hx hko hdrop hgo Dd hgr hxk hka;cases ko with
     |none =>
      have Lp:Hid (Calls prog 44 #[π (some ⟨g,0,none⟩),.int γ 0,.int γ (x:Int)] wr fun e w'=>Below wr.heap.size wr w'∧e=ρ (.tuple #[.agg #[.int γ 0,.string ⟨#[]⟩,.int γ 0],.bool false])):=Pq.out;clear Pq HT;go_wp2_with fail;refine Lp.out.mono ?_;rintro e w6 ⟨VH,rfl⟩;clear Lp d1
      go_upto_region 18 with(fail)
      have VL:=VH.trans ((Qz w6 (θ #[.int γ 0,.string ⟨#[]⟩,.int γ 0] 73)).mono VH.size);have hbk:=(QH.nil w6).box (e:=73) (sz:=3) #[.int γ 0,.string ⟨#[]⟩,.int γ 0] 1 (by unfold maxLen;omega) rfl;have y0:=hbk.cell (i:=0) rfl (j:=0) rfl;have y1:=hbk.cell (i:=0) rfl (j:=1) rfl;have y2:=hbk.cell (i:=0) rfl (j:=2) rfl;generalize w6.alloc (θ #[.int γ 0,.string ⟨#[]⟩,.int γ 0] 73)=w7 at *;generalize w6.heap.size=g7 at *;have hkey:Go.keyOf prog 73 (.agg #[.int γ 0,.string ⟨#[]⟩,.int γ 0])=some (GQ Hv):=yI Ï;have hlk:=BC.out.IV (W:=w7) (t:=71) Gr underlying71 kZ hkey (HOWN.out w7 VL).2;have Wz:=bU kZ;obtain⟨Aa,Ca,ea,_,_⟩:=(BC.out.row (j:=2*YN ks Hv) ω).slice;obtain⟨Ab,Cb,eb,_,_⟩:=(BC.out.row (j:=2*YN ks Hv+1) ω).slice;rw[ea,eb]at hlk;generalize(UI (YN ks) (ks.getD · Hv) a b 2 0 (2*YN ks Hv)).length=AE at *;generalize(UI (YN ks) (ks.getD · Hv) a b 2 0 (2*YN ks Hv+1)).length=AB at *;have HN:Hid (∀W,Below w7.heap.size w7 W→(QB gA gB w W∧MS W S g gA gB a b M'∧QB gA gB w5 W)∧Zw a b M' ((a.kid 0).drop (k+1))=MR):=fun W hW=>⟨(HOWN.out W (VL.trans (hW.mono VL.size))).1,IB.out⟩
      clear hbk VH VL hkey ea eb;go_wp2
      go_roundw
      case rel=>exact⟨k+1,M',ω,by go_num,HN.out _ (Qz w7 _)⟩
      case measure=>simp[intOf];omega
     |some kk =>
      obtain⟨k1,xx,r⟩:=kk;have Lp:Hid (Calls prog 44 #[π (some ⟨g,0,none⟩),.int γ 0,.int γ (x:Int)] wr fun e w'=>Below wr.heap.size wr w'∧e=ρ (.tuple #[.agg #[.int γ k1,.string xx,.int γ r],.bool true])):=Pq.out;have hkk:=jh.out (k1,xx,r) rfl;clear Pq HT;go_wp2_with fail;refine Lp.out.mono ?_;rintro e w6 ⟨VH,rfl⟩;clear Lp d1
      go_upto_region 18 with(fail)
      have VL:=VH.trans ((Qz w6 (θ #[.int γ k1,.string xx,.int γ r] 73)).mono VH.size);have hbk:=(QH.nil w6).box (e:=73) (sz:=3) #[.int γ k1,.string xx,.int γ r] 1 (by unfold maxLen;omega) rfl;have y0:=hbk.cell (i:=0) rfl (j:=0) rfl;have y1:=hbk.cell (i:=0) rfl (j:=1) rfl;have y2:=hbk.cell (i:=0) rfl (j:=2) rfl;generalize w6.alloc (θ #[.int γ k1,.string xx,.int γ r] 73)=w7 at *;generalize w6.heap.size=g7 at *;have hkey:Go.keyOf prog 73 (.agg #[.int γ k1,.string xx,.int γ r])=some (GQ (k1,xx,r)):=yI (Bd.out _ hkk);have hlk:=BC.out.IV (W:=w7) (t:=71) Gr underlying71 hkk hkey (HOWN.out w7 VL).2;have Wz:=bU hkk;have Lb:=BC.out.row (j:=2*YN ks (k1,xx,r)) ω;have LA:=BC.out.row (j:=2*YN ks (k1,xx,r)+1) ω;rw[(ò (yH hkk)).1]at Lb;rw[(ò (yH hkk)).2]at LA;obtain⟨Aa,Ca,ea,_,_⟩:=Lb.slice;obtain⟨Ab,Cb,eb,_,_⟩:=LA.slice;rw[ea,eb]at hlk;rw[eb]at LA;obtain⟨AE,Ws⟩:=Mem.QD ((items a (k1,xx,r)).length);obtain⟨AB,Dc⟩:=Mem.QD ((items b (k1,xx,r)).length);have jf:=QA Dc;have HG2:Hid ((if AE=1∧AB=1 then Zw a b (QK a b M' x ((items b (k1,xx,r)).getD 0 0)) ((a.kid 0).drop (k+1))else Zw a b M' ((a.kid 0).drop (k+1)))=MR):=by have h1:=IB.out;rw[←Ws,←Dc];exact h1
      rw[Ws,Dc]at hlk;rw[Dc]at LA;have Io:=QA LA;have UG:=QA VL;clear hbk VH VL hkey ea eb Lb LA Ws Dc
      go_upto_region 19 with(fail)
      have YJ:=UG.out.trans ((Qz w7 (θ #[ς Aa AE Ca,ς Ab AB Cb] 58)).mono UG.out.size);have hbk:=(QH.nil w7).box (e:=58) (sz:=2) #[ς Aa AE Ca,ς Ab AB Cb] 1 (by unfold maxLen;omega) rfl;have z0:=hbk.cell (i:=0) rfl (j:=0) rfl;have z1:=hbk.cell (i:=0) rfl (j:=1) rfl;have BF:=QA (HOWN.out _ YJ);generalize w7.alloc (θ #[ς Aa AE Ca,ς Ab AB Cb] 58)=w8 at *;generalize w7.heap.size=g8 at *;clear hlk y0 y1 y2 hbk YJ;by_cases hc0:AE=1
      ·subst hc0;by_cases hc1:AB=1
       ·subst hc1;obtain⟨gq,oq,Cq,eq,f1⟩:=Io.out.at_ (i:=0) (by rw[jf.out];omega);rw[jf.out]at eq;injection eq with qm ql qj;subst qm;subst qj;clear ql;rw[Nat.add_zero]at f1;obtain⟨y1,hy1⟩:=Mem.QD ((items b (k1,xx,r)).getD 0 0);have kg:y1<b.n:=by
         have h1:y1∈items b (k1,xx,r):=by rw[←hy1,QX,QN (by rw[jf.out];omega)];exact List.getElem_mem _
         exact Z1 y1 (J1.1 h1).1
        have WC:gm≤gq∧gq<w5.heap.size:=by
         obtain⟨A',C',e',_,_,q3⟩:=Io.out;rcases q3 with q3|⟨b',o',e1,q4,_⟩
         ·have h1:=congrArg List.length q3;rw[VD]at h1;unfold ints at h1;rw[VD,jf.out]at h1;simp at h1
         ·injection e' with e2;rw[←e2]at e1;injection e1 with e1;injection e1 with e4 e5;subst e4;exact q4
        rw[hy1]at f1;have f1:=(JW (w:=w5) (BF.out.2 gq WC.1 WC.2) (a:=⟨gq,oq,none⟩)).trans f1;have Rb:=QA (J9 BF.out.1.2.1 HF.out x y1 rO.out kg);have HG3:Hid (Zw a b (QK a b M' x y1) ((a.kid 0).drop (k+1))=MR):=by have:=HG2.out;rw[if_pos ⟨rfl,rfl⟩,hy1]at this;exact this
        clear hy1 kg WC;go_wp2_with fail;refine Rb.out.mono ?_;rintro e w9 ⟨rfl,La,JC⟩;have HN:Hid ((QB gA gB w w9∧MS w9 S g gA gB a b (QK a b M' x y1)∧QB gA gB w5 w9)∧Zw a b (QK a b M' x y1) ((a.kid 0).drop (k+1))=MR):=⟨⟨BF.out.1.1.trans La,JC,BF.out.1.2.2.trans La⟩,HG3.out⟩;clear La JC;go_wp2
        go_roundw
        case rel=>exact⟨k+1,_,ω,by go_num,HN⟩
        case measure=>simp[intOf];omega
       ·have Nw:((AB:Int)==1)=false:=by rw[beq_eq_false_iff_ne];omega
        have HN:Hid ((QB gA gB w w8∧MS w8 S g gA gB a b M'∧QB gA gB w5 w8)∧Zw a b M' ((a.kid 0).drop (k+1))=MR):=⟨BF.out.1,by have:=HG2.out;rw[if_neg (fun h=>hc1 h.2)]at this;exact this⟩;go_wp2
        go_roundw
        case rel=>exact⟨k+1,M',ω,by go_num,HN⟩
        case measure=>simp[intOf];omega
      ·have cO:((AE:Int)==1)=false:=by rw[beq_eq_false_iff_ne];omega
       have HN:Hid ((QB gA gB w w8∧MS w8 S g gA gB a b M'∧QB gA gB w5 w8)∧Zw a b M' ((a.kid 0).drop (k+1))=MR):=⟨BF.out.1,by have:=HG2.out;rw[if_neg (fun h=>hc0 h.1)]at this;exact this⟩;go_wp2
       go_roundw
       case rel=>exact⟨k+1,M',ω,by go_num,HN⟩
       case measure=>simp[intOf];omega
    ·obtain rfl:la=k:=ω
     have mV:¬(la:Int)<(la:Int):=ω
     have HE:Hid (M'=MR):=by have:=HT.out.2;rw[List.drop_eq_nil_of_le (by rw[uJ.out];exact Nat.le_refl _)]at this;exact this
     go_wp2
     go_end0
     rw[sj.out,←HE.out];exact⟨rfl,HT.out.1.1,HT.out.1.2.1⟩
