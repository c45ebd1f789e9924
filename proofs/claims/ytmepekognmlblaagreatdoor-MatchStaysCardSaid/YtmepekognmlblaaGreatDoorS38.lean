import Derived.Test.YtmepekognmlblaaGreatDoorS32
import Derived.Test.YtmepekognmlblaaGreatDoorS37
set_option maxHeartbeats 16000000
set_option maxRecDepth 100000
set_option linter.unusedVariables false
open Go.Proofs.Tryz Go.ChangeShapes Go.WideShapes Go.ChangeAt Go.RowKit
open _root_.List renaming getElem?_cons_succ→GV,mem_cons_of_mem→UN,append_nil→He,getElem?_eq_getElem→QN,getD_eq_getElem?_getD→QX,getElem?_map→VP,getElem?_eq_none→YP,length_map→VD
open Go.Lib renaming hid→QA
open Go.Value renaming int→ι,slice→ς,pointer→π
open Go.IntKind renaming i64→γ
open Go.Obj renaming cells→θ
open Go.Ending renaming returned→ρ
namespace Go.Proofs.YtmepekognmlblaaGreatDoor
namespace Match
open Mem Tree Shape
structure ZQ{κ:Type}(kt:TypeId)(lit:κ→Lit)(D:κ→Prop)(ix:κ→Nat)(N:Nat)(B:Nat)(W:World)(gm cnt:Nat)(f:Lit→Value)(v:Nat→Value)(L:Nat→List Nat):Prop where
 all:QH W B (Zm prog kt (two (ς none 0 0) (ς none 0 0)) gm cnt f::Qw (2*N) v L)
 at_:∀k,D k→f (lit k)=two (v (2*ix k)) (v (2*ix k+1))
section
variable {κ:Type}{kt:TypeId}{lit:κ→Lit}{D:κ→Prop}{ix:κ→Nat}{N B:Nat}{W:World}{gm cnt:Nat}{f:Lit→Value}{v:Nat→Value}{L:Nat→List Nat}
theorem ZQ.start(kt:TypeId)(lit:κ→Lit)(D:κ→Prop)(ix:κ→Nat)(N:Nat)(w:World):ZQ kt lit D ix N w.heap.size (w.alloc (.map #[] 0)) w.heap.size 0 (fun _=>two (ς none 0 0) (ς none 0 0)) (fun _ => ς none 0 0) (fun _=>[]) :=
 ⟨Ud (pX (QH.nil w) prog kt (two (ς none 0 0) (ς none 0 0))) (2*N),fun _ _=>rfl⟩
theorem ZQ.later{W':World}(h:ZQ kt lit D ix N B W gm cnt f v L)(hb:Below W.heap.size W W'):ZQ kt lit D ix N B W' gm cnt f v L:=⟨h.all.later hb,h.at_⟩
theorem ZQ.look{t:TypeId}(h:ZQ kt lit D ix N B W gm cnt f v L)(K:Maps.Keyed prog kt)(ht:prog.underlying t=some (.map kt 58)){k:κ}(hk:D k){key:Value}(hkey:Go.keyOf prog kt key=some (lit k)) :
 (Instr.lookup t (.map (some gm)) key false).run prog W=.ok (.agg #[v (2*ix k),v (2*ix k+1)]) W:=by
 have:=Ğ (i:=0) h.all rfl K ht (iD W) hkey;rw[this,h.at_ k hk];rfl
theorem ZQ.row(h:ZQ kt lit D ix N B W gm cnt f v L){j:Nat}(hj:j<2*N):Qu W (In B W.heap.size) (v j) (L j):=by
 have hi:(Zm prog kt (two (ς none 0 0) (ς none 0 0)) gm cnt f::Qw (2*N) v L)[j+1]?=some (Qb 3 1 (v j) (L j).length (iV (ints (L j)))):=by rw[GV];exact Vs v L hj
 obtain⟨A,C,e,q1,q2⟩:=h.all.slice hi;refine⟨A,C,e,q1,q2,?_⟩;by_cases h0:(L j).length=0
 ·left
  exact c104
 ·exact c24
theorem ZQ.put{X:List QC}{t:TypeId}{w8:World}{g13 sd p m:Nat}{k:κ}{key:Value}{v':Value}(K:Maps.Keyed prog kt)(ht:prog.underlying t=some (.map kt 58))(hD:D k)(hkey:Go.keyOf prog kt key=some (lit k))(hinj:∀k',D k'→lit k'=lit k→k'=k)(Bp:∀k',D k'→ix k'=ix k→k'=k)(hmk:ix k=m)(hm:m<N)(hs:sd<2)(GU:cnt≤1000000)
 (hF:QH w8 B (((Zm prog kt (two (ς none 0 0) (ς none 0 0)) gm cnt f::Qw (2*N) v L)++(Qb 58 2 (ς (some ⟨g13,0,none⟩) 1 1) 1 [v (2*m),v (2*m+1)]::X)).set (2*m+sd+1) (Qb 3 1 v' ((L (2*m+sd)).length+1) (iV (ints (L (2*m+sd)))++[.int γ (p:Int)]))))
 (hat:∀k,D k→f (lit k)=two (v (2*ix k)) (v (2*ix k+1))) :
 (∃u,w8.cell? ⟨g13,sd,none⟩=some u)∧w8.frozen? ⟨g13,sd,none⟩=false∧(∃A C,v'=ς A ((L (2*m+sd)).length+1) C)∧
 ∃A0 n0 C0 A1 n1 C1,(w8.setCell ⟨g13,sd,none⟩ v').cell? ⟨g13,0,none⟩=some (ς A0 n0 C0)∧(w8.setCell ⟨g13,sd,none⟩ v').cell? ⟨g13,1,none⟩=some (ς A1 n1 C1)∧
  QH (w8.setCell ⟨g13,sd,none⟩ v') B X∧∃UT,(Instr.mapUpdate t (.map (some gm)) key (.agg #[ς A0 n0 C0,ς A1 n1 C1])).run prog (w8.setCell ⟨g13,sd,none⟩ v')=.ok () UT∧Below B w8 UT∧∃f',ZQ kt lit D ix N B UT gm (cnt+1) f' (upd v (2*m+sd) v') (upd L (2*m+sd) (L (2*m+sd)++[p])):=by
 have hj:2*m+sd<2*N:=ω
 have e1:((Zm prog kt (two (ς none 0 0) (ς none 0 0)) gm cnt f::Qw (2*N) v L)++(Qb 58 2 (ς (some ⟨g13,0,none⟩) 1 1) 1 [v (2*m),v (2*m+1)]::X)).set (2*m+sd+1) (Qb 3 1 v' ((L (2*m+sd)).length+1) (iV (ints (L (2*m+sd)))++[.int γ (p:Int)])) =
  Zm prog kt (two (ς none 0 0) (ς none 0 0)) gm cnt f::(Qw (2*N) (upd v (2*m+sd) v') (upd L (2*m+sd) (L (2*m+sd)++[p]))++(Qb 58 2 (ς (some ⟨g13,0,none⟩) 1 1) 1 [v (2*m),v (2*m+1)]::X)):=by
  rw[List.cons_append,List.set_cons_succ,List.set_append_left _ _ (by rw[Qe];exact hj),←ow];unfold iV ints;rw[List.map_append,List.map_append,List.length_append];rfl
 rw[e1]at hF;have hlast:(Zm prog kt (two (ς none 0 0) (ς none 0 0)) gm cnt f::(Qw (2*N) (upd v (2*m+sd) v') (upd L (2*m+sd) (L (2*m+sd)++[p]))++(Qb 58 2 (ς (some ⟨g13,0,none⟩) 1 1) 1 [v (2*m),v (2*m+1)]::X)))[2*N+1]?=some (Qb 58 2 (ς (some ⟨g13,0,none⟩) 1 1) 1 [v (2*m),v (2*m+1)]):=by rw[GV,List.getElem?_append_right (by rw[Qe];exact Nat.le_refl _),Qe,Nat.sub_self];rfl
 have hrow:∀j,j<2*N→(Zm prog kt (two (ς none 0 0) (ς none 0 0)) gm cnt f::(Qw (2*N) (upd v (2*m+sd) v') (upd L (2*m+sd) (L (2*m+sd)++[p]))++(Qb 58 2 (ς (some ⟨g13,0,none⟩) 1 1) 1 [v (2*m),v (2*m+1)]::X)))[j+1]?=some (Qb 3 1 (upd v (2*m+sd) v' j) (upd L (2*m+sd) (L (2*m+sd)++[p]) j).length (iV (ints (upd L (2*m+sd) (L (2*m+sd)++[p]) j)))):=by intro j hj';rw[GV,List.getElem?_append_left (by rw[Qe];exact hj'),Vs _ _ hj']
 have hsl:=hF.slice (hrow (2*m+sd) hj);rw[Zo,Zo,List.length_append,List.length_singleton]at hsl;obtain⟨A,C,hv',_,_⟩:=hsl;obtain⟨A0,C0,h0,_,_⟩:=hF.slice (hrow (2*m) ω);obtain⟨A1,C1,h1,_,_⟩:=hF.slice (hrow (2*m+1) ω);have hc:∃u,w8.cell? ⟨g13,sd,none⟩=some u:=by
  have RY:sd=0∨sd=1:=ω
  rcases RY with rfl|rfl
  ·exact⟨_,hF.cell hlast (j:=0) rfl⟩
  ·exact⟨_,hF.cell hlast (j:=1) rfl⟩
 obtain⟨Mo,U'⟩:=hF.store hlast sd v';rw[List.set_cons_succ,List.set_append_right _ _ (by rw[Qe];exact Nat.le_refl _),Qe,Nat.sub_self,List.set_cons_zero]at Mo;have ZV:([v (2*m),v (2*m+1)]:List Value).set sd v'=[upd v (2*m+sd) v' (2*m),upd v (2*m+sd) v' (2*m+1)]:=by
  have RY:sd=0∨sd=1:=ω
  rcases RY with rfl|rfl
  ·exact c125
  ·rw[Zo,V1 v v' (by omega:2*m≠2*m+1)];rfl
 rw[ZV]at Mo;have Le:(Zm prog kt (two (ς none 0 0) (ς none 0 0)) gm cnt f::(Qw (2*N) (upd v (2*m+sd) v') (upd L (2*m+sd) (L (2*m+sd)++[p]))++(Qb 58 2 (ς (some ⟨g13,0,none⟩) 1 1) 1 [upd v (2*m+sd) v' (2*m),upd v (2*m+sd) v' (2*m+1)]::X)))[2*N+1]?=some (Qb 58 2 (ς (some ⟨g13,0,none⟩) 1 1) 1 [upd v (2*m+sd) v' (2*m),upd v (2*m+sd) v' (2*m+1)]):=by rw[GV,List.getElem?_append_right (by rw[Qe];exact Nat.le_refl _),Qe,Nat.sub_self];rfl
 have hc0:=Mo.cell Le (j:=0) rfl;have hc1:=Mo.cell Le (j:=1) rfl;refine⟨hc,hF.JO hlast sd,⟨A,C,hv'⟩,A0,_,C0,A1,_,C1,by rw[←h0];exact hc0,by rw[←h1];exact hc1,Mo.sub (((List.sublist_cons_self _ _).trans (List.sublist_append_right _ _)).trans (List.sublist_cons_self _ _)),?_⟩;obtain⟨UT,hr,WX,UA,_⟩:=fM (i:=0) (e:=58) (t:=t) Mo rfl K ht (by unfold maxLen;omega) hkey (val:=.agg #[upd v (2*m+sd) v' (2*m),upd v (2*m+sd) v' (2*m+1)]);rw[h0,h1]at hr;refine⟨UT,hr,U'.trans UA,KN f (lit k) (.agg #[upd v (2*m+sd) v' (2*m),upd v (2*m+sd) v' (2*m+1)]),⟨WX.sub ?_,fun k' hk'=>?_⟩⟩
 ·exact c133
 ·by_cases e:k'=k
  ·subst e;rw[Gb,hmk];rfl
  ·have hne:ix k'≠m:=fun h=>e (Bp k' hk' (by rw[h,hmk]))
   rw[E0 _ _ (fun h=>e (hinj k' hk' h)),hat k' hk',V1 v v' (by omega:2*ix k'≠2*m+sd),V1 v v' (by omega:2*ix k'+1≠2*m+sd)]
end
def Hv:Ky:=(0,.empty,0)
noncomputable def GQ (k:Ky):Lit:=(Go.keyOf prog 73 (yj (some k))).getD (.int γ 0)
def FY(k:Ky):Prop:=(-9223372036854775808≤k.1∧k.1≤9223372036854775807)∧(-9223372036854775808≤k.2.2∧k.2.2≤9223372036854775807)∧k.2.1.size≤maxLen
theorem yI{k:Ky}(h:FY k):Go.keyOf prog 73 (yj (some k))=some (GQ k):=by
 obtain⟨k1,x,r⟩:=k;obtain⟨⟨h1,h2⟩,⟨h3,h4⟩,h5⟩:=h;obtain⟨l,hl⟩:=Qys k1 r x h1 h2 h3 h4 h5;have hl:Go.keyOf prog 73 (yj (some (k1,x,r)))=some l:=hl;unfold GQ;rw[hl];rfl
theorem Qs0{k k':Ky}(h:FY k)(h':FY k')(e:GQ k'=GQ k):k'=k:=by
 have q1:=yI h;have q2:=yI h';rw[e]at q2;have:=Gr.inj q2 q1;obtain⟨k1,x,r⟩:=k;obtain⟨k2,x',r'⟩:=k';simp only[yj,Value.agg.injEq,Array.mk.injEq,List.cons.injEq,Value.int.injEq,Value.string.injEq,true_and,and_true]at this;obtain⟨rfl,rfl,rfl⟩:=this;rfl
def Ff(s:Sd)(k:Ky)(i:Nat):List Nat:=((s.kid 0).take i).filter fun p=>decide (keyOf s p=some k)
theorem im{s:Sd}{k:Ky}{i:Nat}(h:i<(s.kid 0).length):Ff s k (i+1)=Ff s k i++(if keyOf s ((s.kid 0).getD i 0)=some k then[(s.kid 0).getD i 0]else[]):=by
 unfold Ff;rw[List.take_add_one,List.getElem?_eq_getElem h,List.filter_append,List.getD_eq_getElem?_getD,List.getElem?_eq_getElem h]
 congr 1
 simp only[Option.toList,Option.getD_some,List.filter_cons,List.filter_nil,decide_eq_true_eq]
theorem ó(s:Sd)(k:Ky):Ff s k (s.kid 0).length=items s k:=by unfold Ff items;rw[List.take_length]
theorem Õ(s:Sd)(k:Ky)(i:Nat):(Ff s k i).length≤(s.kid 0).length:=by
 unfold Ff;refine Nat.le_trans (List.length_filter_le _ _) ?_;rw[List.length_take];omega
def YE(a b:Sd)(sd:Nat):Sd:=if sd=0 then a else b
def Nn(a b:Sd)(side i sd:Nat)(k:Ky):List Nat:=if sd<side then items (YE a b sd) k else if sd=side then Ff (YE a b side) k i else[]
def UI(ix:Ky→Nat)(dec:Nat→Ky)(a b:Sd)(side i j:Nat):List Nat:=GJ ix dec (Nn a b side i (j%2)) (j/2)
section
variable {ix:Ky→Nat}{dec:Nat→Ky}{a b:Sd}{side i:Nat}{k:Ky}
theorem Qs9:UI ix dec a b 0 0=fun _=>[]:=by
 funext j
 unfold UI;rw[ì];intro k;unfold Nn Ff;rw[if_neg ω];split <;> rfl
theorem Qtb:UI ix dec a b side ((YE a b side).kid 0).length=UI ix dec a b (side+1) 0:=by
 funext j
 unfold UI;have:Nn a b side ((YE a b side).kid 0).length (j%2)=Nn a b (side+1) 0 (j%2):=by
  funext k
  unfold Nn;by_cases h1:j%2<side
  ·rw[if_pos h1,if_pos ω]
  ·rw[if_neg h1];by_cases h2:j%2=side
   ·rw[if_pos h2,if_pos ω,h2,ó]
   ·rw[if_neg h2,if_neg ω];split <;> rfl
 rw[this]
theorem ò(h:dec (ix k)=k):UI ix dec a b 2 0 (2*ix k)=items a k∧UI ix dec a b 2 0 (2*ix k+1)=items b k:=by
 unfold UI
 constructor
 ·rw[show 2*ix k%2=0 by omega,show 2*ix k/2=ix k by omega,Et h];unfold Nn YE;rw[if_pos ω,if_pos rfl]
 ·rw[show(2*ix k+1)%2=1 by omega,show(2*ix k+1)/2=ix k by omega,Et h];unfold Nn YE;rw[if_pos ω,if_neg ω]
theorem Qta(hi:i<((YE a b side).kid 0).length)(hs:side<2)(hk:keyOf (YE a b side) (((YE a b side).kid 0).getD i 0)=none):UI ix dec a b side (i+1)=UI ix dec a b side i:=by
 funext j
 unfold UI;have:Nn a b side (i+1) (j%2)=Nn a b side i (j%2):=by
  funext k
  unfold Nn;rw[im hi,hk,if_neg (show ¬((none:Option Ky)=some k)by simp),He]
 rw[this]
theorem Qwb(hi:i<((YE a b side).kid 0).length)(hs:side<2)(hk:keyOf (YE a b side) (((YE a b side).kid 0).getD i 0)=some k)(hd:dec (ix k)=k) :
 UI ix dec a b side (i+1)=upd (UI ix dec a b side i) (2*ix k+side) (UI ix dec a b side i (2*ix k+side)++[((YE a b side).kid 0).getD i 0]):=by
 funext j
 by_cases e:j=2*ix k+side
 ·subst e;rw[Zo];unfold UI;rw[show(2*ix k+side)%2=side by omega,show(2*ix k+side)/2=ix k by omega,Et hd,Et hd];unfold Nn;rw[if_neg (Nat.lt_irrefl _),if_pos rfl,if_neg (Nat.lt_irrefl _),if_pos rfl,im hi,if_pos hk]
 ·rw[V1 _ _ e];unfold UI GJ;split
  ·rename_i h1
   unfold Nn;by_cases h2:j%2<side
   ·rw[if_pos h2,if_pos h2]
   ·rw[if_neg h2,if_neg h2];by_cases h3:j%2=side
    ·rw[if_pos h3,if_pos h3,im hi,hk,if_neg,He];intro h4;injection h4 with h4;rw[←h4]at h1;omega
    ·rw[if_neg h3,if_neg h3]
  ·rfl
theorem Qwc(ha:(a.kid 0).length≤20000)(hb:(b.kid 0).length≤20000)(j:Nat):(UI ix dec a b side i j).length≤20000:=by
 unfold UI;refine ë (fun k=>?_) _
 have hl:∀sd,((YE a b sd).kid 0).length≤20000:=fun sd=>by
  unfold YE;split
  ·exact ha
  ·exact hb
 unfold Nn;split
 ·rw[←ó];exact Nat.le_trans (Õ _ _ _) (hl _)
 ·split
  ·exact Nat.le_trans (Õ _ _ _) (hl _)
  ·exact Nat.zero_le _
end
def jW(a b:Sd):List Ky:=Hv::((a.kid 0).filterMap (keyOf a)++(b.kid 0).filterMap (keyOf b))
theorem Á{a b:Sd}{p:Nat}{k:Ky}(hp:p∈a.kid 0)(h:keyOf a p=some k):k∈jW a b :=
 UN _ (List.mem_append_left _ (List.mem_filterMap.2 ⟨p,hp,h⟩))
theorem Qzw{a b:Sd}{p:Nat}{k:Ky}(hp:p∈b.kid 0)(h:keyOf b p=some k):k∈jW a b :=
 UN _ (List.mem_append_right _ (List.mem_filterMap.2 ⟨p,hp,h⟩))
theorem Qkw(s:Sd)(p:Nat)(h:∀x,s.no x<1000000) : -1≤recv s p∧recv s p<1000000:=by
 unfold recv
 have:∀(l:List Nat)(r:Int),(-1≤r∧r<1000000)→-1≤l.foldl (fun _ q=>((s.no q:Nat):Int)) r∧l.foldl (fun _ q=>((s.no q:Nat):Int)) r<1000000:=by
  intro l
  induction l with
  |nil=>intro r hr;exact hr
  |cons q t ih=>intro r _;exact ih _ ⟨by show(-1:Int)≤((s.no q:Nat):Int);omega,by show((s.no q:Nat):Int)<1000000;have:=h q;omega⟩
 exact this _ _ ω
theorem ħ{s:Sd}{p:Nat}{k:Ky}(h:keyOf s p=some k)(hn:∀x,s.no x<1000000)(hx:(s.at_ p).x.size≤maxLen)(hk : -9223372036854775808≤(s.at_ p).k∧(s.at_ p).k≤9223372036854775807):FY k:=by
 have hr:=Qkw s p hn;unfold keyOf at h;unfold FY;split at h
 ·injection h with h;subst h;exact⟨by simp only;omega,by simp only;omega,by simp only[ByteArray.size_empty];exact Nat.zero_le _⟩
 ·split at h
  ·injection h with h;subst h;exact⟨hk,by simp only;omega,hx⟩
  ·split at h
   ·injection h with h;subst h;exact⟨by simp only;omega,by simp only;omega,hx⟩
   ·cases h
theorem Ï:FY Hv:=by unfold FY Hv;exact⟨by simp only;omega,by simp only;omega,by simp only[ByteArray.size_empty];exact Nat.zero_le _⟩
structure IR(w W:World)(v:Value)(L:List Nat):Prop where
 all:QH W w.heap.size [Qb 3 1 v L.length (iV (ints L))]
 QF:Below w.heap.size w W
section
variable {w W:World}{v:Value}{L:List Nat}
theorem IR.nil(w:World):IR w w (ς none 0 0) []:=⟨(QH.nil w).VQ (e:=3) (sz:=1),Below.refl _ _⟩
theorem IR.later{W':World}(h:IR w W v L)(hb:Below W.heap.size W W'):IR w W' v L:=⟨h.all.later hb,h.QF.trans (hb.mono h.QF.size)⟩
theorem IR.grow{w1:World}{v':Value}{p:Nat}(h:IR w W v L)(hf:QH w1 w.heap.size (([Qb 3 1 v L.length (iV (ints L))]:List QC).set 0 (Qb 3 1 v' (L.length+1) (iV (ints L)++[ι γ (p:Int)]))))(hb:Below w.heap.size W w1):IR w w1 v' (L++[p]):=by
 refine⟨?_,h.QF.trans hb⟩;have e:iV (ints (L++[p]))=iV (ints L)++[ι γ (p:Int)]:=by unfold iV ints;rw[List.map_append,List.map_append];rfl
 rw[e,List.length_append];exact hf
theorem Qz3(L:List Nat)(r:List Value):dV L.length (fun i=>L.getD i 0) r=iV (ints L)++r:=by
 unfold dV iV ints
 congr 1
 apply List.ext_getElem?;intro k;rw[VP,VP,VP];by_cases hk:k<L.length
 ·rw[List.getElem?_range hk,QN hk];simp[QX,QN hk]
 ·rw[YP (by rw[List.length_range];omega),YP ω];rfl
theorem IR.cells(h:IR w W v L)(hn:0<L.length):∃g C r,v = ς (some ⟨g,0,none⟩) L.length C∧(L.length≤C∧C≤maxLen)∧(w.heap.size≤g∧g<W.heap.size)∧ZP W g L.length (fun i=>L.getD i 0) r:=by
 have ho:W.ownsRow 0 3 1 v L.length (iV (ints L)):=h.all.get (i:=0) rfl;rcases ho.2 with⟨_,h0⟩|⟨g,cap,cur,rfl,_,hg,h1,h2,h3,h4⟩
 ·omega
 ·have hlt:=h.all.lt (List.mem_cons_self ..) (k:=g) rfl;refine⟨g,cap,cur.toList.drop L.length,rfl,⟨h1,h2⟩,hlt,?_⟩;show W.heap[g]?=_;rw[Qz3,←h4,Nat.mul_one,List.take_append_drop,hg]
theorem Qsq(L:List Nat):L=(List.range L.length).map fun i=>L.getD i 0:=by
 apply List.ext_getElem?;intro k;rw[VP];by_cases hk:k<L.length
 ·rw[List.getElem?_range hk,QN hk];simp[QX,QN hk]
 ·rw[YP ω,YP (by rw[List.length_range];omega)];rfl
end
def Jq(M:List Int)(i:Nat):List Nat:=(List.range i).filter fun p=>QQ M p
theorem Qlt(M:List Int)(i:Nat):Jq M (i+1)=Jq M i++(if QQ M i=true then[i]else[]):=by
 unfold Jq;rw[List.range_succ,List.filter_append]
 congr 1
 exact c124
theorem Ŗ(M:List Int)(i:Nat):(Jq M i).length≤i:=by
 unfold Jq;exact c64
theorem Qo1{w:World}{gs gZ oZ n C x y:Nat}{z:Nat→Nat}(c0:w.cell? ⟨gs,0,none⟩=some (ς (some ⟨gZ,oZ,none⟩) n C))(hx:x<n)(hy:y<n)(hn:n≤1000000)(hz:∀x,z x≤1000000)(cx:w.cell? ⟨gZ,oZ+x,none⟩=some (ι γ (z x:Int)))(cy:w.cell? ⟨gZ,oZ+y,none⟩=some (ι γ (z y:Int))) :
 Calls prog 68 #[ι γ (x:Int),ι γ (y:Int),π (some ⟨gs,0,none⟩)] w fun e w'=>e=ρ (ι γ ((z y:Int)-(z x:Int)))∧∃q,w'=w.drewN q:=by
 have hzx:=hz x;have hzy:=hz y;have x0:(0:Int)≤(x:Int):=ω
 have y0:(0:Int)≤(y:Int):=ω
 have x1:(x:Int)<(n:Int):=ω
 have y1:(y:Int)<(n:Int):=ω
 have w1:IntKind.i64.wrap ((z y:Int)-(z x:Int))=(z y:Int)-(z x:Int):=by rw[IntKind.wrap_i64];omega
 clear hz hx hy;go_enter func68,ntmps68;go_wp2
 go_quiet (fail)
 go_wp2;go_ret;exact⟨rfl,_,rfl⟩
variable {w:World}{S:Nat→Prop}{g gA gB:Nat}{a b:Sd}{M:St}
theorem Qsx(h:MS w S g gA gB a b M)(hf:Fit a b):Calls prog 48 #[π (some ⟨g,0,none⟩)] w fun e w'=>Below w.heap.size w w'∧∃v,e = ρ v∧Qu w' (In w.heap.size w'.heap.size) v (J7 a (Jt a M.1)):=by
 have JL:=QA h;obtain⟨CA,cA⟩:=h.cA;have RL:=hf.na;obtain⟨n,hn⟩:=Mem.QD (a.n);have HN:=QA hn;have uk:Hid (0<a.n):=hf.nums.EG.pos
 have XO:Hid (∀x,a.sz x≤1000000):=fun x=>by
  by_cases hx:x<a.n
  ·have:=Sd.sub hx;omega
  ·have hx:a.nd.length≤x:=by unfold Sd.n at hx;omega
   show(a.nd.getD x _).size≤_;rw[QX,YP hx];decide
 obtain⟨gZ,oZ,CZ,c2,_⟩:=h.ro.pa.size hf.nums.EG.pos
 have hzs:∀x,x<a.n→w.cell? ⟨gZ,oZ+x,none⟩=some (ι γ ((a.sz x:Nat):Int)):=fun x hx=>by
  obtain⟨g',o',C',Lj,h1⟩:=h.ro.pa.size hx;rw[c2]at Lj;exact c96
 have wM:Hid (gZ<w.heap.size):=World.block_lt_of_cell? _ _ (hzs 0 hf.nums.EG.pos);rw[Nat.zero_add]at c2;have UO:=QA c2;have HZS:=QA hzs;rw[hn]at cA RL;have HE:Hid (Jt a M.1=Jq M.1 n):=by show _=_;unfold Jt Jq;rw[HN.out]
 have EB:=QA (IR.nil w);rw[hn]at UO HZS;clear h hf hn c2 hzs;go_enter func48,ntmps48;go_wp2;clear cA
 go_loopw [3,12] (fun s3 YU wr=>∃i:Nat,i≤n∧YU=ι γ (i:Int)∧Hid (IR w wr s3 (Jq M.1 i))) (fun _ s _=>n-(intOf s).toNat)
 case atStart=>exact⟨0,Nat.zero_le _,rfl,EB⟩
 case round =>
  clear EB;obtain⟨i,hi,rfl,HP⟩:=hrel;by_cases hlt:i<n
  ·have hlt':(i:Int)<(n:Int):=ω
   have KZ:(0:Int)≤(i:Int):=ω
   have Hk:=QA (Gv (JL.out.later HP.out.QF) i (by rw[HN.out];exact hlt));have HS:Hid (Jq M.1 (i+1)=Jq M.1 i++(if QQ M.1 i=true then[i]else[])):=Qlt M.1 i;have hlen:=Ŗ M.1 i;generalize QQ M.1 i=fr at *;obtain⟨i0,hi0,hz0,hz1,hz2⟩:=info_parts Zq;go_wp2_with fail;refine Hk.out.mono ?_;rintro e w6 ⟨rfl,qd,GS⟩;have VH:Below wr.heap.size wr w6:=by rw[GS];exact⟨rfl,rfl,rfl,Nat.le_refl _,fun _ _=>rfl⟩
   have YC:=QA (HP.out.later VH);clear GS VH Hk HP;cases fr with
   |true =>
    go_wp2_with (at_builtin;refine K7 (i:=0) YC.out.all rfl rfl _ _ rfl underlying32 hi0 hz0 hz1 hz2 rfl δ rfl _ 1 rfl rfl rfl ω ?_);intro v' w' hf hb;have aG:=QA (YC.out.grow (p:=i) hf hb);clear hf hb;go_wp2
    go_roundw
    case rel=>exact⟨i+1,ω,by go_num,by rw[HS.out,if_pos trivial];exact aG⟩
    case measure=>simp[intOf];omega
   |false =>
    go_wp2
    go_roundw
    case rel=>exact⟨i+1,ω,by go_num,by rw[HS.out,if_neg ψ,List.append_nil];exact YC⟩
    case measure=>simp[intOf];omega
  ·obtain rfl:n=i:=ω
   have hlt':¬(n:Int)<(n:Int):=ω
   have c2:=(HP.out.QF.cell (World.block_lt_of_cell? _ _ UO.out)).trans UO.out;have XY:Hid (Jq M.1 n=Jt a M.1):=HE.out.symm;clear hlt
   go_upto_region 9 with(fail)
   have hb1:=Qz wr (θ #[ς (some ⟨gZ,oZ,none⟩) n CZ] 32);have b0:(wr.alloc (θ #[ς (some ⟨gZ,oZ,none⟩) n CZ] 32)).cell? ⟨wr.heap.size,0,none⟩=some (ς (some ⟨gZ,oZ,none⟩) n CZ):=by have:=((QH.nil wr).box (e:=32) (sz:=1) #[ς (some ⟨gZ,oZ,none⟩) n CZ] 1 (by unfold maxLen;omega) rfl).cell (i:=0) rfl (j:=0) rfl;exact this
   have JP:=QA (HP.out.QF.trans (hb1.mono HP.out.QF.size));have Z':=QA hb1;have Pw:=QA b0;obtain⟨gs,xj⟩:=Mem.QD (wr.heap.size);have wN:Hid (gs<(wr.alloc (θ #[ς (some ⟨gZ,oZ,none⟩) n CZ] 32)).heap.size):=by show _<_;rw[←xj];simp
   rw[xj]at Pw;have jm:=QA xj;rw[xj];generalize wr.alloc (θ #[ς (some ⟨gZ,oZ,none⟩) n CZ] 32)=w1 at *;have uq:=QA (HP.out.later Z'.out);have LH:=QA (Ŗ M.1 n);have F7:∀(fn:Fn)(first cap:Array Value)(w:World),(Instr.makeFunc fn first cap).run prog w=.ok (.func fn first cap) w:=fun _ _ _ _=>rfl
   clear hb1 b0 xj c2;by_cases hk:(Jq M.1 n).length=0
   ·obtain⟨A,C,rfl,q1,q2⟩:=uq.out.all.slice (i:=0) rfl;have HQ:=QA (And.intro q1 q2);have hL:Jq M.1 n=[]:=List.length_eq_zero_iff.1 hk;have HS:=QA (Qb3 A C (.func (.func 68) #[] #[π (some ⟨gs,0,none⟩)]) w1);have Hh:Hid (J7 a (Jt a M.1)=[]):=by show _=_;rw[←XY.out,hL];rfl
    rw[hk]at HQ;rw[hk];clear hk hL q1 q2;go_wp2_with fail;refine c₁ HS.out fun w9 hw=>?_;subst hw;go_wp2;go_ret;exact⟨JP.out,_,rfl,by rw[Hh.out];exact⟨A,C,rfl,HQ.out.1,HQ.out.2,.inl rfl⟩⟩
   ·obtain⟨g1,C,r,rfl,hC,⟨hg1,hg2⟩,I4⟩:=HP.out.cells ω;obtain⟨k,hkk⟩:=Mem.QD ((Jq M.1 n).length);have KA:=QA hkk;have Pv:=QA hC;have HG:=QA (And.intro hg1 hg2);have xE:ZP w1 g1 _ _ r:=ZY.keep I4 Z'.out;have uX:Uf w1 g1 68 #[π (some ⟨gs,0,none⟩)] a.sz n:=by
     refine⟨enters_of func68 χ rfl,fun W ht x y hx hy=>?_⟩;have n1:gs≠g1:=by have:=jm.out;omega
     have n2:gZ≠g1:=by have:=wM.out;omega
     have s1:=wN.out;have s2:gZ<w1.heap.size:=Nat.lt_of_lt_of_le wM.out JP.out.size;have kz:∀x,x<n→W.cell? ⟨gZ,oZ+x,none⟩=some (ι γ ((a.sz x:Nat):Int)):=fun x hx=>(World.cell?_of_block (w:=w1) (ht.block gZ s2 n2 n2)).trans ((JP.out.cell wM.out).trans (HZS.out x hx))
     exact Qo1 ((World.cell?_of_block (w:=w1) (ht.block gs s1 n1 n1)).trans Pw.out) hx hy ω XO.out (kz x hx) (kz y hy)
    have hrise:=Qd9 a M.1
    have SZ:∀i,i<(Jq M.1 n).length→(Jq M.1 n).getD i 0<n:=fun i hi=>by
     have h1:(Jq M.1 n).getD i 0∈Jq M.1 n:=by rw[QX,QN hi];exact List.getElem_mem _
     have h2:=(List.mem_filter.1 h1).1;exact List.mem_range.1 h2
    rw[←XY.out]at hrise
    have CC:=Qc4 xE uX SZ XO.out C (by have:=LH.out;omega) (fun i j hij hj=>by
     have:=List.pairwise_iff_getElem.1 hrise i j ω hj hij;rw[QX,QX,QN (by omega:i<_),QN hj];exact this)
    have vU:=QA hrise;rw[hkk]at CC⊢;have HS:=QA CC;clear hk hkk hC hg1 hg2 I4 xE uX hrise SZ CC;go_wp2_with fail;refine HS.out.mono ?_;rintro e w9 ⟨rfl,ht,d',hd,hp,ho⟩;have HT:=QA ht;have HD:=QA hd;have HO:=QA (And.intro hp ho);clear ht hd hp ho;go_wp2;go_ret;have hst:=Quk a vU.out (Qsq (Jq M.1 n)) (d':=d') (by rw[KA.out];exact HO.out.1) (by rw[KA.out];exact HO.out.2);have hbz:Below w.heap.size w1 w9:=HT.out.below JP.out.size HG.out.1 HG.out.1;refine⟨JP.out.trans hbz,ς (some ⟨g1,0,none⟩) k C,rfl,?_⟩;rw[←XY.out,←hst,KA.out];have hll:((List.range k).map d').length=k:=by rw[VD,List.length_range]
    refine⟨some ⟨g1,0,none⟩,C,by rw[hll],by rw[hll,←KA.out];exact Pv.out.1,Pv.out.2,.inr ⟨g1,0,rfl,⟨HG.out.1,Nat.lt_of_lt_of_le HG.out.2 (Nat.le_trans Z'.out.size HT.out.size)⟩,fun i u hu=>?_⟩⟩;have hi:i<k:=by have:=(List.getElem?_eq_some_iff.1 hu).1;rw[VD]at this;unfold ints at this;rw[VD,hll]at this;exact this
    have hu':=ints_at (l:=(List.range k).map d') (i:=i) (v:=d' i) (by rw[VP,List.getElem?_range hi];rfl);rw[hu']at hu;injection hu with hu;rw[Nat.zero_add,←hu];exact(HD.out.cell hi).1
