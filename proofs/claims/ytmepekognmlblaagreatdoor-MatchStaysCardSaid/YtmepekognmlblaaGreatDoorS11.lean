import Derived.Test.YtmepekognmlblaaGreatDoorS04
import Derived.Laws.Rows
import Derived.Lib.SlTrimSet
import Derived.Lib.SlBytesConst
set_option maxHeartbeats 4000000
set_option linter.unusedVariables false
open Go.ChangeShapes Go.WideShapes Go.ChangeAt Go.RowKit Go.Proofs.Tryz
open Go.Lib renaming hid→QA
open _root_.List renaming getElem?_eq_getElem→QN,length_take→JS
open Go.Value renaming string→σ,int→ι,slice→ς,bool→τ,agg→ξ
open Go.IntKind renaming i64→γ
open Go.Obj renaming cells→θ
open Go.Ending renaming returned→ρ
namespace Go.Proofs.YtmepekognmlblaaGreatDoor
namespace Lex
open Ro
def KT:List (List Int):=Y4++vI
def AA(k:Nat):ByteArray:=strOfNums (KT.getD k [])
def mkV:Array Value:=(KT.map fun m=>σ (strOfNums m)).toArray
def XF(w:World):Prop:=∃t fr,w.heap[1]?=some (θ mkV t fr)
theorem XF.below{w w':World}{B:Nat}(h:XF w)(hb:Below B w w')(hB:1<B):XF w':=by
 obtain⟨t,fr,h⟩:=h;exact⟨t,fr,(hb.block 1 hB).trans h⟩
theorem XF.pos{w:World}(h:XF w):1<w.heap.size:=by
 obtain⟨t,fr,h⟩:=h;rcases Nat.lt_or_ge 1 w.heap.size with h' |h'
 ·exact h'
 ·rw[Array.getElem?_eq_none h']at h;cases h
theorem ra:KT.length=37:=by decide +kernel
theorem rH:mkV.size=37:=by simp[mkV,ra]
theorem Qsm:∀k:Fin 37,((KT.getD k.val []).length=if k.val<17 then 2 else 1):=by decide +kernel
theorem pZ{k:Nat}(h:k<37):(KT.getD k []).length=if k<17 then 2 else 1:=Qsm ⟨k,h⟩
theorem Qvd:∀m∈KT,∀x∈m,0≤x∧x<256:=by decide +kernel
theorem strOfNums_size(m:List Int):(strOfNums m).size=m.length:=by simp[strOfNums,ByteArray.size]
theorem Qgf{m:List Int}(hb:KC m){i:Nat}(hi:i<m.length)(h':i<(strOfNums m).size):(((strOfNums m)[i]'h').toNat:Int)=m.getD i 0:=by
 have hx:=hb m[i] (List.getElem_mem hi);have e:(strOfNums m)[i]'h'=UInt8.ofNat (m[i]).toNat:=by show(strOfNums m).data[i]=_;simp[strOfNums]
 rw[e,yt _ ω];simp[List.getD,hi];omega
theorem Qbn{P:Program}(t:TypeId)(ht:P.underlying t=some .string){m:List Int}(hb:KC m){i:Nat}(hi:i<m.length)(w:World) :
 (Instr.index t (σ (strOfNums m)) (ι γ (i:Int))).run P w=.ok (ι .u8 (m.getD i 0)) w:=by
 rw[run_index_string w t _ _ _ ht,dif_pos ⟨ω,by rw[strOfNums_size];omega⟩];have:=Qgf hb hi (by rw[strOfNums_size];omega);simp only[Int.toNat_natCast];rw[this]
theorem Qh5{P:Program}(t e:TypeId)(n:Nat)(cs:Array Value)(ht:P.underlying t=some (.array n e))(hs:∀w,(sizeOf e).run P w=.ok 1 w)(ha:∀w,(isAgg e).run P w=.ok false w){i:Nat}(hi:i<cs.size)(hn:cs.size=n)(w:World) :
 (Instr.index t (ξ cs) (ι γ (i:Int))).run P w=.ok cs[i] w:=by
 have hx:cs[i*1]?=some cs[i]:=by rw[Nat.mul_one];exact Array.getElem?_eq_getElem hi
 simp[Instr.index,run_underlying ht,asIntOf,go_sem,hs,ha,show i<n by omega,hi]
theorem Qye{k:Nat}(hk:k<mkV.size):mkV[k]=σ (AA k):=by
 have h37:k<KT.length:=by rw[ra];rw[rH]at hk;exact hk
 simp[mkV,AA,List.getD,h37]
theorem run_mark{k:Nat}(hk:k<37)(w:World):(Instr.index 187 (ξ mkV) (ι γ (k:Int))).run Tryz.prog w=.ok (σ (AA k)) w:=by
 rw[Qh5 187 9 37 mkV Tryz.underlying187 Tryz.sizeOf9 Tryz.isAgg9 (by rw[rH];exact hk) rH w,Qye]
def Pre(xs:List Int)(k:Nat):Prop:=xs.take (KT.getD k []).length=KT.getD k []
theorem Qvb{k:Nat}(h:k<17):KT.getD k []∈Y4:=by
 have:∀k:Fin 17,KT.getD k.val []∈Y4:=by decide +kernel
 exact this ⟨k,h⟩
theorem Qvc{k:Nat}(h1:17≤k)(h:k<37):KT.getD k []∈vI:=by
 have:∀k:Fin 37,17≤k.val→KT.getD k.val []∈vI:=by decide +kernel
 exact this ⟨k,h⟩ h1
theorem Que{m:List Int}(h:m∈Y4):∃k,k<17∧KT.getD k []=m:=by
 have:∀m∈Y4,∃k:Fin 17,KT.getD k.val []=m:=by decide +kernel
 obtain⟨k,hk⟩:=this m h;exact⟨k.val,k.isLt,hk⟩
theorem Qu4{m:List Int}(h:m∈vI):∃k,17≤k∧k<37∧KT.getD k []=m:=by
 have:∀m∈vI,∃k:Fin 37,17≤k.val∧KT.getD k.val []=m:=by decide +kernel
 obtain⟨k,hk1,hk⟩:=this m h;exact⟨k.val,hk1,k.isLt,hk⟩
theorem Ñ{xs:List Int}(h:∀j,j<17→¬Pre xs j):xs.take 2 ∉ Y4:=by
 intro hm;obtain⟨k,hk,e⟩:=Que hm;have hl:=pZ (k:=k) ω;rw[if_pos hk]at hl;exact h k hk (by unfold Pre;rw[hl,e])
theorem Qvf{xs:List Int}{k:Nat}(hk:k<37)(h:∀j,j<k→¬Pre xs j)(hp:Pre xs k):Qk xs=(KT.getD k []).length:=by
 have hl:=pZ hk;unfold Pre at hp;unfold Qk;by_cases EM:k<17
 ·rw[if_pos EM]at hl;rw[hl]at hp⊢;rw[if_pos (by rw[hp];exact Qvb EM)]
 ·rw[if_neg EM]at hl;rw[hl]at hp⊢;rw[if_neg (Ñ (fun j hj=>h j ω)),if_pos (by rw[hp];exact Qvc ω hk)]
theorem Qow{xs:List Int}(h:∀j,j<37→¬Pre xs j):Qk xs=0:=by
 unfold Qk;rw[if_neg (Ñ (fun j hj=>h j ω)),if_neg];intro hm;obtain⟨k,hk1,hk,e⟩:=Qu4 hm;have hl:=pZ hk;rw[if_neg ω]at hl;exact h k hk (by unfold Pre;rw[hl,e])
theorem Qr0{xs:List Int}{k:Nat}(h:xs.length<(KT.getD k []).length):¬Pre xs k:=by
 intro hp;have:=congrArg List.length hp;rw[JS]at this;omega
theorem Quy{xs:List Int}{k i:Nat}(hi:i<(KT.getD k []).length)(h:(KT.getD k []).getD i 0≠xs.getD i 0):¬Pre xs k:=by
 intro hp;unfold Pre at hp;apply h;have:=getD_take (l:=xs) hi;rw[hp]at this;exact this
theorem Quz{xs:List Int}{k:Nat}(hl:(KT.getD k []).length≤xs.length)(h:∀i,i<(KT.getD k []).length→(KT.getD k []).getD i 0=xs.getD i 0):Pre xs k:=by
 unfold Pre;generalize KT.getD k []=m at *;refine List.ext_getElem (by rw[JS];omega) (fun i h1 h2=>?_);have:=h i h2;simp only[List.getD,QN h2,QN (show i<xs.length by omega),Option.getD_some]at this;rw[List.getElem_take];exact this.symm
theorem Qsp(A:Option Addr)(n cap:Nat)(xs:List Int)(w:World)(B:Nat)(h:RB w B A xs)(hn:xs.length=n)(hn0:0<n)(hcap:n≤cap)(QT:cap≤maxLen)(hsm:n≤1000000)(hT:XF w) :
 Calls Tryz.prog 165 #[ς A n cap] w fun e w'=>e=ρ (ι γ (Qk xs))∧∃q,w.drewN q=w':=by
 obtain⟨b,off,rfl,_,hc⟩:=h.cell (by intro e;rw[e]at hn;simp at hn;omega);have HC:=QA hc;clear hc;have HB:=QA h.Bu;clear h;have Hn:=QA hn;clear hn;obtain⟨tt,fr,hg⟩:=hT;have Og:∀q,(w.drewN q).heap[1]?=some (θ mkV tt fr):=fun q=>hg
 have Hl:=QA Og;clear hg Og;have HM:=QA (fun(k:Nat)(hk:k<37)(W:World)=>run_mark hk W);unfold maxLen at QT;go_enter Tryz.func165,Tryz.ntmps165;go_wp2
 go_step3
 go_wp2
 go_step3
 go_wp2_with (refine wpList_load_row rfl _ _ rfl 1 rfl _ _ _ _ (Hl.out 0) Tryz.underlying187 rfl χ ?_)
 go_loopw [4,5,7,17] (fun _ _ i _ wr=>∃k q:Nat,k≤37∧i=ι γ k∧wr=w.drewN q∧Hid (∀j,j<k→¬Pre xs j)) (fun _ _ i _ _=>37-(intOf i).toNat)
 case atStart=>exact⟨0,0,ω,rfl,rfl,fun j hj=>absurd hj ω⟩
 case round =>
  obtain⟨k,q,hk,rfl,rfl,hpre⟩:=hrel;by_cases hlt:k<37
  ·have Bp:=QA (HM.out k hlt);obtain⟨L,hL⟩:∃L,(KT.getD k []).length=L:=⟨_,rfl⟩;have hL2:1≤L∧L≤2:=by
    have:=pZ hlt;rw[hL]at this;split at this <;> omega
   have Br:KC (KT.getD k []):=fun x hx=>Qvd _ (by
    have:k<KT.length:=by rw[ra];exact hlt
    simp only[List.getD,QN this,Option.getD_some];exact List.getElem_mem this) x hx
   have hs:(AA k).size=L:=by rw[AA,strOfNums_size,hL]
   have HX:Hid (∀(i:Nat),i<L→∀W:World,(Instr.index 9 (σ (AA k)) (ι γ (i:Int))).run Tryz.prog W=.ok (ι .u8 ((KT.getD k []).getD i 0)) W):=fun i hi W=>Qbn 9 Tryz.underlying9 Br (by rw[hL];exact hi) W
   have se:Hid (∀i,i<L→(KT.getD k []).getD i 0≠xs.getD i 0→∀j,j<k+1→¬Pre xs j):=fun i hi he j hj=>by
    by_cases e:j=k
    ·subst e;exact Quy (by rw[hL];exact hi) he
    ·exact hpre.out j ω
   have DZ:Hid (n<L→∀j,j<k+1→¬Pre xs j):=fun hi j hj=>by
    by_cases e:j=k
    ·subst e;exact Qr0 (by rw[hL,Hn.out];exact hi)
    ·exact hpre.out j ω
   have Ih:Hid (L≤n→(∀i,i<L→(KT.getD k []).getD i 0=xs.getD i 0)→Qk xs=L):=fun hi he=>by
    rw[Qvf hlt hpre.out (Quz (by rw[hL,Hn.out];exact hi) (fun i hi=>he i (by rw[←hL];exact hi))),hL]
   have Mc:Hid (∀i,0≤(KT.getD k []).getD i 0∧(KT.getD k []).getD i 0<256):=fun i=>Br.getD i
   obtain⟨gv,hL2⟩:=hL2;clear hL Br hpre;generalize KT.getD k []=m at *;generalize AA k=s at *;have hi0:=Bp.out;clear Bp;have hk':(k:Int)<37:=ω
   by_cases hLn:n<L
   ·have qX:=QA (DZ.out hLn);clear se Ih HX DZ;go_wp2
    go_roundw
    case rel=>exact⟨k+1,q,ω,by go_num,rfl,qX.out⟩
    case measure=>simp[intOf];omega
   ·clear DZ;go_wp2
    go_loopw [5,17] (fun _ i wr=>∃p r:Nat,p≤L∧i=ι γ p∧wr=w.drewN r∧Hid (∀i,i<p→m.getD i 0=xs.getD i 0)) (fun _ i _=>L-(intOf i).toNat)
    case atStart=>exact⟨0,q,ω,rfl,rfl,fun i hi=>absurd hi ω⟩
    case round =>
     obtain⟨p,r,hp,rfl,rfl,heq⟩:=hrel;by_cases D9:p<L
     ·have IX:=HX.out p D9;have Br:=Mc.out p;have hci:∀q,(w.drewN q).cell? ⟨b,off+p,none⟩=some (ι .u8 (xs.getD p 0)):=fun q=>HC.out p (by rw[Hn.out];omega)
      have JF:=HB.out.getD p;have qU:=QA (se.out p D9)
      have qD:Hid (m.getD p 0=xs.getD p 0→∀i,i<p+1→m.getD i 0=xs.getD i 0):=fun he i hi=>by
       by_cases e:i=p
       ·rw[e];exact he
       ·exact heq.out i ω
      clear heq se Ih HX Mc;generalize m.getD p 0=x at *;generalize xs.getD p 0=y at *;have GZ:(p:Int)<n:=ω
      by_cases hxy:x=y
      ·subst hxy;have oH:=QA (qD.out rfl);clear qU qD;go_wp2
       go_quiet (fail)
       go_wp2
       go_roundw
       case rel=>exact⟨p+1,_,ω,by go_num,rfl,oH.out⟩
       case measure=>simp[intOf];omega
      ·have BH:=QA (qU.out hxy);have hne:(x != y)=true:=by rw[bne_iff_ne];exact hxy
       clear qU qD hxy;go_wp2
       go_quiet (fail)
       go_wp2
       go_roundw
       case rel=>exact⟨k+1,_,ω,by go_num,rfl,BH.out⟩
       case measure=>simp[intOf];omega
     ·have HE:=QA (Ih.out ω (fun i hi=>heq.out i ω));clear heq se Ih HX Mc;go_wp2;rw[Exit.noGoto_ret];go_wp2;go_ret;rw[HE.out];exact⟨rfl,r,rfl⟩
  ·have HE:=QA (Qow (fun j hj=>hpre.out j ω));have hnl:¬(k:Int)<37:=ω
   clear hpre hlt;go_wp2;go_ret;rw[HE.out];exact⟨rfl,q,rfl⟩
theorem pH{x y:Int}(h0:0≤x∧x<256)(h1:0≤y∧y<256):(UInt8.ofNat x.toNat==UInt8.ofNat y.toNat)=decide (x=y):=by
 by_cases h:x=y
 ·subst h;simp
 ·rw[decide_eq_false h,beq_eq_false_iff_ne];intro e;have:=congrArg UInt8.toNat e;rw[yt x.toNat ω,yt y.toNat ω]at this;omega
theorem Qpw{l:List UInt8}(h:l.all (fun b=>decide (b.toNat<128))=true)(j:Nat)(b:UInt8)(hj:l[j]? = some b):b.toNat<128:=by
 simpa using List.all_eq_true.1 h b (List.mem_of_getElem? hj)
theorem ę{w:World}{B n:Nat}{A:Option Addr}{xs:List Int}(h:RB w B A xs)(hn:xs.length=n):Lib.BytesIn w A n xs:=fun h0=>by
 obtain⟨b,off,e,_,hc⟩:=h.cell (by intro e;rw[e]at hn;simp at hn;omega);exact⟨b,off,e,fun i hi=>hc i ω⟩
theorem ġ:∀(xs:List Int),KC xs→Lib.indexByte (Lib.bytesOf xs) (UInt8.ofNat (10:Int).toNat)=if lead (fun c=>c != 10) xs<xs.length then(lead (fun c=>c != 10) xs:Int)else -1
 |[],_=>rfl
 |c::r,hb=>by
  have ih:=ġ r (fun y hy=>hb y (by simp[hy]));have hc:=hb c ψ;unfold Lib.bytesOf at ih⊢;simp only[List.map_cons,Lib.indexByte,ih,pH hc (show(0:Int)≤10∧(10:Int)<256 by omega)];have hle:=Yd (fun c=>c != 10) r;by_cases h:c=10
  ·subst h;simp[lead]
  ·have hne:(c != 10)=true:=by rw[bne_iff_ne];exact h
   have e:lead (fun c=>c != 10) (c::r)=lead (fun c=>c != 10) r+1:=by simp only[lead,hne,if_true]
   rw[e,List.length_cons,decide_eq_false h];by_cases hl:lead (fun c=>c != 10) r<r.length
   ·rw[if_pos hl,if_neg ψ,if_neg (by rw[beq_iff_eq];omega),if_pos ω];simp
   ·rw[if_neg hl,if_neg ψ,if_pos (by rfl),if_neg ω]
theorem Ģ(xs:List Int)(hb:KC xs):Lib.indexByte (Lib.bytesOf xs) (UInt8.ofNat (10:Int).toNat)=if Kc xs<xs.length then(Kc xs:Int)else -1:=ġ xs hb
theorem Ç{x:Int}(h:0≤x∧x<256):([32,9,13]:List UInt8).contains (UInt8.ofNat x.toNat)=blk x:=by
 have e:∀y:Int,0≤y∧y<256→(UInt8.ofNat x.toNat==UInt8.ofNat y.toNat)=decide (x=y):=fun y hy=>pH h hy
 have e1:=e 32 ω;have e2:=e 9 ω;have e3:=e 13 ω;rw[Bool.eq_iff_iff,FU];have:([32,9,13]:List UInt8).contains (UInt8.ofNat x.toNat)=((UInt8.ofNat x.toNat==32)||((UInt8.ofNat x.toNat==9)||(UInt8.ofNat x.toNat==13))):=by simp[List.contains,List.elem];cases(UInt8.ofNat x.toNat==32) <;> cases(UInt8.ofNat x.toNat==9) <;> cases(UInt8.ofNat x.toNat==13) <;> rfl
 rw[this];change(UInt8.ofNat x.toNat==32)=_ at e1;change(UInt8.ofNat x.toNat==9)=_ at e2;change(UInt8.ofNat x.toNat==13)=_ at e3;rw[e1,e2,e3];simp
theorem Ÿ{xs:List Int}{j:Nat}{b:UInt8}(h:(Lib.bytesOf xs)[j]?=some b):j<xs.length∧b=UInt8.ofNat (xs.getD j 0).toNat:=by
 unfold Lib.bytesOf at h;rw[List.getElem?_map]at h;cases e:xs[j]? with
 |none=>rw[e]at h;simp at h
 |some x =>
  rw[e]at h;have hl:j<xs.length:=by
   rcases Nat.lt_or_ge j xs.length with h' |h'
   ·exact h'
   ·rw[List.getElem?_eq_none h']at e;cases e
  exact⟨hl,by simp[List.getD,e]at h⊢;exact h.symm⟩
theorem Quf{xs:List Int}(hb:KC xs):(Lib.trimRightS (Lib.bytesOf xs) [32,9,13]).length=Xb xs:=by
 have hle:=AX xs;rw[Lib.trimRightS_take (Lib.bytesOf xs) [32,9,13] (Xb xs) (by rw[Lib.bytesOf_length];exact hle) (fun j b hj h=>?_) (fun b h0 h=>?_)]
 ·rw[JS,Lib.bytesOf_length];omega
 ·obtain⟨hl,rfl⟩:=Ÿ h;rw[Ç (hb.getD j)];exact Qe3 xs j hj hl
 ·obtain⟨hl,rfl⟩:=Ÿ h;rw[Ç (hb.getD _)];exact Qcq xs h0
theorem Quu(w:World)(xs:List Int)(T:TypeId)(fr:Nat×Nat)(hb:KC xs):RB (w.alloc (θ (xs.map (ι .u8)).toArray T fr)) (w.heap.size+1) (some ⟨w.heap.size,0,none⟩) xs :=
 ⟨hb,.inr ⟨_,_,rfl,ω,fun i hi=>by
  rw[Nat.zero_add,World.cell?_alloc_mark];simp[List.getD,hi]⟩⟩
theorem Qux:∀(xs:List Int),KC xs→Lib.hasPrefix (Lib.bytesOf xs) (Lib.bytesOf [47,47])=decide (xs.take 2=[47,47])
 |[],_=>rfl
 |[c],hb=>by simp[Lib.hasPrefix,Lib.bytesOf,List.isPrefixOf]
 |c::d::r,hb=>by
  have hc:=hb c ψ;have hd:=hb d ψ;have e1:=pH (show(0:Int)≤47∧(47:Int)<256 by omega) hc;have e2:=pH (show(0:Int)≤47∧(47:Int)<256 by omega) hd;simp only[Lib.hasPrefix,Lib.bytesOf,List.map_cons,List.map_nil,List.isPrefixOf,e1,e2,List.take_succ_cons,List.take_zero];rw[Bool.eq_iff_iff];simp;exact⟨fun⟨a,b⟩=>⟨a.symm,b.symm⟩,fun⟨a,b⟩=>⟨a.symm,b.symm⟩⟩
theorem Qtq(p:Option Addr)(xs:List Int)(n c:Nat)(hb:KC xs)(hn:xs.length=n) :
 ∃v1 v2,Lib.cutV p n c 1 (Lib.indexByte (Lib.bytesOf xs) (10:Int).toNat.toUInt8)=.tuple #[ς p (Kc xs) c,v1,v2]:=by
 have:=Ģ xs hb;change Lib.indexByte (Lib.bytesOf xs) (10:Int).toNat.toUInt8=_ at this;rw[this];have hle:=Yd (fun c=>c != 10) xs;by_cases h:Kc xs<xs.length
 ·rw[if_pos h];unfold Lib.cutV;rw[if_pos ω];exact⟨_,_,rfl⟩
 ·have e:Kc xs=n:=by unfold Kc at *;omega
  rw[if_neg h];unfold Lib.cutV;rw[if_neg ω,e];exact⟨_,_,rfl⟩
theorem Qku(A:Option Addr)(n cap:Nat)(xs:List Int)(w:World)(B:Nat)(h:RB w B A xs)(hB:B≤w.heap.size)(hn:xs.length=n)(hn0:0<n)(hcap:n≤cap)(QT:cap≤maxLen)(hsm:n≤1000000) :
 Calls prog 164 #[ς A n cap] w fun e w'=>e=ρ (ι γ (Bw xs))∧Below w.heap.size w w':=by
 have hb:=h.Bu;obtain⟨b,off,rfl,I8,hc⟩:=h.cell (by intro e;rw[e]at hn;simp at hn;omega);obtain⟨v1,v2,hcv⟩:=Qtq (some ⟨b,off,none⟩) xs n cap hb hn;have hle:Kc xs≤n:=by have:=Yd (fun c=>c != 10) xs;unfold Kc;omega
 have EC:Hid (∀(g:Nat),g=w.heap.size→Calls prog 169 #[ς (some ⟨b,off,none⟩) n cap,ς (some ⟨g,0,none⟩) 1 1] (w.alloc (θ #[ι .u8 10] 5)) fun e w'=>e = ρ (.tuple #[ς (some ⟨b,off,none⟩) (Kc xs) cap,v1,v2])∧∃q,w'=(w.alloc (θ #[ι .u8 10] 5)).drewN q):=by
  rintro g rfl;have Dj:=Ģ xs hb;change Lib.indexByte (Lib.bytesOf xs) (10:Int).toNat.toUInt8=_ at Dj;rw[←hcv];refine Tryz.bytes_Cut_of _ _ n cap 1 1 _ _ hcap (by rw[Dj];split <;> omega) (fun h0=>by rw[Dj]at h0⊢;split at h0 <;> rename_i h1 <;> first|omega|(rw[if_pos h1];omega)) ω ?_;refine(Tryz.bytes_Index_one b off n cap w.heap.size 0 1 xs 10 _ hn (fun i hi=>?_) ?_).mono fun _ _ ⟨he,hw⟩=>⟨he,0,hw⟩
  ·rw[World.cell?_alloc_lt _ _ _ (show b<w.heap.size by omega)];exact hc i ω
  ·exact World.cell?_alloc_at _ _ _ _ rfl
 have Ml:=hb.take (Kc xs)
 have DR:Hid (∀q,Calls prog 170 #[ς (some ⟨b,off,none⟩) (Kc xs) cap,σ ⟨#[32,9,13]⟩] ((w.alloc (θ #[ι .u8 10] 5)).drewN q) fun e w'=>e = ρ (ς (some ⟨b,off,none⟩) (Bw xs) cap)∧Below (w.heap.size+1) ((w.alloc (θ #[ι .u8 10] 5)).drewN q) w'):=fun q=>by
  have:=Tryz.bytes_TrimRight_laid (some ⟨b,off,none⟩) (Kc xs) cap (xs.take (Kc xs)) ⟨#[32,9,13]⟩ ((w.alloc (θ #[ι .u8 10] 5)).drewN q) (by rw[JS];omega) ω (by unfold maxLen at QT;omega)
   (fun _=>⟨b,off,rfl,fun i hi=>by
    show(w.alloc _).cell? _=_;rw[World.cell?_alloc_lt _ _ _ (show b<w.heap.size by omega),hc i ω,getD_take hi]⟩) Ml δ (Qpw (l:=[32,9,13]) δ)
  rw[Quf Ml]at this;rw[show((w.alloc (θ #[ι .u8 10] 5)).drewN q).heap.size=w.heap.size+1 by simp[World.drewN]]at this;exact this
 have hr:Bw xs≤n:=by have:=AX (xs.take (Kc xs));rw[JS]at this;unfold Bw;omega
 have h1:=EC.out w.heap.size rfl;have H1:=QA h1;clear EC h1 hcv hc Ml hb h
 have HCw:Hid (∀q w',Below (w.heap.size+1) ((w.alloc (θ #[ι .u8 10] 5)).drewN q) w'→Below w.heap.size w w'):=fun q w' hb=>by
  have h2:=below_drewN ((Below.refl w.heap.size w).alloc (Nat.le_refl _) (θ #[ι .u8 10] 5)) q;exact h2.trans (hb.mono ω)
 generalize Kc xs=ln at *;generalize Bw xs=rm at *;unfold maxLen at QT;go_enter func164,ntmps164;go_wp2_with fail;refine H1.out.mono ?_;rintro e w' ⟨rfl,q,rfl⟩;go_wp2_with fail;refine(DR.out q).mono ?_;rintro e w' ⟨rfl,ZX⟩;go_wp2_with fail;go_ret;exact⟨rfl,HCw.out q _ ZX⟩
theorem fW(A:Option Addr)(n cap:Nat)(xs:List Int)(w:World)(B:Nat)(h:RB w B A xs)(hB:B≤w.heap.size)(hn:xs.length=n)(hn0:0<n)(hcap:n≤cap)(QT:cap≤maxLen)(hsm:n≤1000000)(hT:XF w) :
 Calls prog 153 #[ς A n cap] w fun e w'=>e=ρ (.tuple #[ι γ (piece xs).1,ι γ ((piece xs).2:Nat)])∧Below w.heap.size w w':=by
 have hb:=h.Bu;cases xs with
 |nil=>simp at hn;omega
 |cons c r =>
 have hpc:=Qdg c r;obtain⟨b,off,rfl,I8,hc⟩:=h.cell ψ;have hcell:w.cell? ⟨b,off,none⟩=some (ι .u8 c):=by simpa using hc 0 ω
 obtain⟨hc0,hc1⟩:=hb c ψ;have GY:=QA (Jj c w hc0 hc1);have TK:Below w.heap.size w w:=Below.refl _ _;have Hn:=QA hn;have xN:=QT;unfold maxLen at xN;have Q1s:n≤9223372036854775807:=ω
 by_cases k1:kd c=1
 ·rw[if_pos k1]at hpc;rw[hpc];rw[k1]at GY;have HW:=QA (Ŋ _ n cap (c::r) w B h hn hn0 hcap QT);clear k1 hpc hc hn h hb Hn QT;generalize Xu (c::r)=L at *;go_enter func153,ntmps153;go_wp2_with (first|(go_at_call 110;refine GY.out.mono ?_;rintro e w' ⟨rfl,rfl⟩)|(go_at_call 111;refine HW.out.mono ?_;rintro e w' ⟨rfl,rfl⟩))
  go_ret2
  exact⟨rfl,TK⟩
 rw[if_neg k1]at hpc;by_cases k2:kd c=2
 ·rw[if_pos k2]at hpc;rw[hpc];have HW:=QA (Qk9 _ n cap (c::r) w B h hn hn0 (by simp[NB,k2]) hcap QT);rw[k2]at GY;clear k1 k2 hpc hc hn h hb Hn QT;generalize OE (c::r)=L at *;go_enter func153,ntmps153;go_wp2_with (first|(go_at_call 110;refine GY.out.mono ?_;rintro e w' ⟨rfl,rfl⟩)|(go_at_call 161;refine HW.out.mono ?_;rintro e w' ⟨rfl,rfl⟩))
  go_ret2
  exact⟨rfl,TK⟩
 rw[if_neg k2]at hpc;by_cases k3:kd c=3
 ·rw[if_pos k3]at hpc;rw[hpc];have HW:=QA (Qky _ n cap (c::r) w B h hn hn0 hcap QT hsm);rw[k3]at GY;clear k1 k2 k3 hpc hc hn h hb Hn QT;generalize DI (c::r)=L at *;go_enter func153,ntmps153;go_wp2_with (first|(go_at_call 110;refine GY.out.mono ?_;rintro e w' ⟨rfl,rfl⟩)|(go_at_call 162;refine HW.out.mono ?_;rintro e w' ⟨rfl,rfl⟩))
  go_ret2
  exact⟨rfl,TK⟩
 rw[if_neg k3]at hpc;by_cases k4:kd c=4
 ·rw[if_pos k4]at hpc;rw[k4]at GY;have Oo:Below w.heap.size w (w.alloc (θ #[ι .u8 47,ι .u8 47] 5 (2,3))):=(Below.refl _ _).alloc (Nat.le_refl _) _;have hA:=h.below Oo hB
  have uj:Hid (∀g,g=w.heap.size→Calls prog 163 #[ς (some ⟨b,off,none⟩) n cap,ς (some ⟨g,0,none⟩) 2 2] (w.alloc (θ #[ι .u8 47,ι .u8 47] 5 (2,3))) fun e w'=>e = ρ (τ (decide ((c::r).take 2=[47,47])))∧w.alloc (θ #[ι .u8 47,ι .u8 47] 5 (2,3))=w'):=fun g hg=>by
   subst hg;rw[←Qux _ hb];refine(Tryz.bytes_HasPrefix_all _ _ n cap 2 2 (c::r) [47,47] _ hn rfl hcap (ę hA hn) (ę (Quu w [47,47] 5 (2,3) (by intro x hx;simp at hx;omega)) rfl)).mono fun _ _ ⟨he,hw⟩=>⟨he,hw.symm⟩
  have TT:=QA (uj.out _ rfl);clear uj;have kc:(convert 103 103 (ς (some ⟨w.heap.size,0,none⟩) 2 2)).run prog (w.alloc (θ #[ι .u8 47,ι .u8 47] 5))=.ok (ς (some ⟨w.heap.size,0,none⟩) 2 2) (w.alloc (θ #[ι .u8 47,ι .u8 47] 5 (2,3))) :=
   Lib.run_convert_bytes_const (P:=prog) w 103 5 _ 2 2 underlying103 underlying5
  by_cases h47:(c::r).take 2=[47,47]
  ·rw[if_pos h47]at hpc;rw[hpc];rw[decide_eq_true h47]at TT;have HW:=QA (Qku _ n cap (c::r) _ B hA (by simp;omega) hn hn0 hcap QT hsm);have JM:Hid (∀w',Below (w.alloc (θ #[ι .u8 47,ι .u8 47] 5 (2,3))).heap.size (w.alloc (θ #[ι .u8 47,ι .u8 47] 5 (2,3))) w'→Below w.heap.size w w'):=fun w' hw=>Oo.trans (hw.mono ψ)
   clear k1 k2 k3 k4 hpc hc hn h hb Hn QT hA Oo h47;generalize Bw (c::r)=L at *;go_enter func153,ntmps153;go_wp2_with (first|(go_at_call 110;refine GY.out.mono ?_;rintro e w' ⟨rfl,rfl⟩)|(go_at_call 163;refine TT.out.mono ?_;rintro e w' ⟨rfl,rfl⟩)|(go_at_call 164;refine HW.out.mono ?_;rintro e w' ⟨rfl,hbl⟩))
   go_ret2
   exact⟨rfl,JM.out _ hbl⟩
  ·rw[if_neg h47]at hpc;rw[hpc];rw[decide_eq_false h47]at TT;have HW:=QA (Qsp _ n cap (c::r) _ B hA hn hn0 hcap QT hsm (hT.below Oo hT.pos));have JM:Hid (∀q,Below w.heap.size w ((w.alloc (θ #[ι .u8 47,ι .u8 47] 5 (2,3))).drewN q)):=fun q=>below_drewN Oo q
   clear k1 k2 k3 k4 hpc hc hn h hb Hn QT hA Oo h47;generalize Qk (c::r)=L at *;go_enter func153,ntmps153;go_wp2_with (first|(go_at_call 110;refine GY.out.mono ?_;rintro e w' ⟨rfl,rfl⟩)|(go_at_call 163;refine TT.out.mono ?_;rintro e w' ⟨rfl,rfl⟩)|(go_at_call 165;refine HW.out.mono ?_;rintro e w' ⟨rfl,q,rfl⟩))
   go_ret2
   exact⟨rfl,JM.out q⟩
 ·rw[if_neg k4]at hpc;rw[hpc];generalize kd c=k at *;have b1:=Zc k1;have b2:=Zc k2;have b3:=Zc k3;have b4:=Zc k4;clear k1 k2 k3 k4 hpc hc hn h hb Hn QT;go_enter func153,ntmps153;go_wp2_with (go_at_call 110;refine GY.out.mono ?_;rintro e w' ⟨rfl,rfl⟩)
  go_ret2
  exact⟨rfl,TK⟩
theorem Qjx{a b:List Int}(ha:KC a)(hb:KC b)(h:Lib.bytesOf a=Lib.bytesOf b):a=b :=
 U9 ha hb (Qc2 (by rw[Lib.strOfNums_toList,Lib.strOfNums_toList,h]))
theorem Qxt{t:List Int}(ht:KC t)(u:List Int)(hu:KC u):((strOfNums t).toList==Lib.bytesOf u)=decide (t=u):=by
 rw[Lib.strOfNums_toList];by_cases h:t=u
 ·subst h;simp
 ·rw[decide_eq_false h,beq_eq_false_iff_ne];exact fun e=>h (Qjx ht hu e)
theorem Zg{t u:List Int}(h:t=u):((strOfNums t).toList==Lib.bytesOf u)=true:=by
 subst h;rw[Lib.strOfNums_toList];simp
theorem Zx{t:List Int}(ht:KC t){u:List Int}(hu:u.all (fun x=>decide (0≤x∧x<256))=true)(h:t≠u):((strOfNums t).toList==Lib.bytesOf u)=false:=by
 rw[Qxt ht u (fun x hx=>by simpa using List.all_eq_true.1 hu x hx),decide_eq_false h]
theorem Č(t:List Int)(ht:KC t)(w:World) :
 Calls prog 112 #[σ (strOfNums t)] w fun e w'=>e=ρ (τ (isWord t))∧w=w':=by
 by_cases c0:t=[112,97,99,107,97,103,101]
 ·have b0:((strOfNums t).toList==[112,97,99,107,97,103,101])=true:=Zg (u:=[112,97,99,107,97,103,101]) c0;rw[show isWord t=true from by rw[c0];decide +kernel];clear ht c0;generalize strOfNums t=s at *;go_enter func112,ntmps112;go_wp2;go_ret;exact⟨rfl,rfl⟩
 have b0:((strOfNums t).toList==[112,97,99,107,97,103,101])=false:=Zx ht (u:=[112,97,99,107,97,103,101]) δ c0;by_cases c1:t=[105,109,112,111,114,116]
 ·have b1:((strOfNums t).toList==[105,109,112,111,114,116])=true:=Zg (u:=[105,109,112,111,114,116]) c1;rw[show isWord t=true from by rw[c1];decide +kernel];clear ht c0 c1;generalize strOfNums t=s at *;go_enter func112,ntmps112;go_wp2;go_ret;exact⟨rfl,rfl⟩
 have b1:((strOfNums t).toList==[105,109,112,111,114,116])=false:=Zx ht (u:=[105,109,112,111,114,116]) δ c1;by_cases c2:t=[99,111,110,115,116]
 ·have b2:((strOfNums t).toList==[99,111,110,115,116])=true:=Zg (u:=[99,111,110,115,116]) c2;rw[show isWord t=true from by rw[c2];decide +kernel];clear ht c0 c1 c2;generalize strOfNums t=s at *;go_enter func112,ntmps112;go_wp2;go_ret;exact⟨rfl,rfl⟩
 have b2:((strOfNums t).toList==[99,111,110,115,116])=false:=Zx ht (u:=[99,111,110,115,116]) δ c2;by_cases c3:t=[118,97,114]
 ·have b3:((strOfNums t).toList==[118,97,114])=true:=Zg (u:=[118,97,114]) c3;rw[show isWord t=true from by rw[c3];decide +kernel];clear ht c0 c1 c2 c3;generalize strOfNums t=s at *;go_enter func112,ntmps112;go_wp2;go_ret;exact⟨rfl,rfl⟩
 have b3:((strOfNums t).toList==[118,97,114])=false:=Zx ht (u:=[118,97,114]) δ c3;by_cases c4:t=[116,121,112,101]
 ·have b4:((strOfNums t).toList==[116,121,112,101])=true:=Zg (u:=[116,121,112,101]) c4;rw[show isWord t=true from by rw[c4];decide +kernel];clear ht c0 c1 c2 c3 c4;generalize strOfNums t=s at *;go_enter func112,ntmps112;go_wp2;go_ret;exact⟨rfl,rfl⟩
 have b4:((strOfNums t).toList==[116,121,112,101])=false:=Zx ht (u:=[116,121,112,101]) δ c4;by_cases c5:t=[102,117,110,99]
 ·have b5:((strOfNums t).toList==[102,117,110,99])=true:=Zg (u:=[102,117,110,99]) c5;rw[show isWord t=true from by rw[c5];decide +kernel];clear ht c0 c1 c2 c3 c4 c5;generalize strOfNums t=s at *;go_enter func112,ntmps112;go_wp2;go_ret;exact⟨rfl,rfl⟩
 have b5:((strOfNums t).toList==[102,117,110,99])=false:=Zx ht (u:=[102,117,110,99]) δ c5;by_cases c6:t=[109,97,112]
 ·have b6:((strOfNums t).toList==[109,97,112])=true:=Zg (u:=[109,97,112]) c6;rw[show isWord t=true from by rw[c6];decide +kernel];clear ht c0 c1 c2 c3 c4 c5 c6;generalize strOfNums t=s at *;go_enter func112,ntmps112;go_wp2;go_ret;exact⟨rfl,rfl⟩
 have b6:((strOfNums t).toList==[109,97,112])=false:=Zx ht (u:=[109,97,112]) δ c6;by_cases c7:t=[115,116,114,117,99,116]
 ·have b7:((strOfNums t).toList==[115,116,114,117,99,116])=true:=Zg (u:=[115,116,114,117,99,116]) c7;rw[show isWord t=true from by rw[c7];decide +kernel];clear ht c0 c1 c2 c3 c4 c5 c6 c7;generalize strOfNums t=s at *;go_enter func112,ntmps112;go_wp2;go_ret;exact⟨rfl,rfl⟩
 have b7:((strOfNums t).toList==[115,116,114,117,99,116])=false:=Zx ht (u:=[115,116,114,117,99,116]) δ c7;by_cases c8:t=[105,102]
 ·have b8:((strOfNums t).toList==[105,102])=true:=Zg (u:=[105,102]) c8;rw[show isWord t=true from by rw[c8];decide +kernel];clear ht c0 c1 c2 c3 c4 c5 c6 c7 c8;generalize strOfNums t=s at *;go_enter func112,ntmps112;go_wp2;go_ret;exact⟨rfl,rfl⟩
 have b8:((strOfNums t).toList==[105,102])=false:=Zx ht (u:=[105,102]) δ c8;by_cases c9:t=[101,108,115,101]
 ·have b9:((strOfNums t).toList==[101,108,115,101])=true:=Zg (u:=[101,108,115,101]) c9;rw[show isWord t=true from by rw[c9];decide +kernel];clear ht c0 c1 c2 c3 c4 c5 c6 c7 c8 c9;generalize strOfNums t=s at *;go_enter func112,ntmps112;go_wp2;go_ret;exact⟨rfl,rfl⟩
 have b9:((strOfNums t).toList==[101,108,115,101])=false:=Zx ht (u:=[101,108,115,101]) δ c9;by_cases c10:t=[102,111,114]
 ·have Rn:((strOfNums t).toList==[102,111,114])=true:=Zg (u:=[102,111,114]) c10;rw[show isWord t=true from by rw[c10];decide +kernel];clear ht c0 c1 c2 c3 c4 c5 c6 c7 c8 c9 c10;generalize strOfNums t=s at *;go_enter func112,ntmps112;go_wp2;go_ret;exact⟨rfl,rfl⟩
 have Rn:((strOfNums t).toList==[102,111,114])=false:=Zx ht (u:=[102,111,114]) δ c10;by_cases c11:t=[114,101,116,117,114,110]
 ·have PV:((strOfNums t).toList==[114,101,116,117,114,110])=true:=Zg (u:=[114,101,116,117,114,110]) c11;rw[show isWord t=true from by rw[c11];decide +kernel];clear ht c0 c1 c2 c3 c4 c5 c6 c7 c8 c9 c10 c11;generalize strOfNums t=s at *;go_enter func112,ntmps112;go_wp2;go_ret;exact⟨rfl,rfl⟩
 have PV:((strOfNums t).toList==[114,101,116,117,114,110])=false:=Zx ht (u:=[114,101,116,117,114,110]) δ c11;by_cases c12:t=[98,114,101,97,107]
 ·have UC:((strOfNums t).toList==[98,114,101,97,107])=true:=Zg (u:=[98,114,101,97,107]) c12;rw[show isWord t=true from by rw[c12];decide +kernel];clear ht c0 c1 c2 c3 c4 c5 c6 c7 c8 c9 c10 c11 c12;generalize strOfNums t=s at *;go_enter func112,ntmps112;go_wp2;go_ret;exact⟨rfl,rfl⟩
 have UC:((strOfNums t).toList==[98,114,101,97,107])=false:=Zx ht (u:=[98,114,101,97,107]) δ c12;by_cases c13:t=[99,111,110,116,105,110,117,101]
 ·have TN:((strOfNums t).toList==[99,111,110,116,105,110,117,101])=true:=Zg (u:=[99,111,110,116,105,110,117,101]) c13;rw[show isWord t=true from by rw[c13];decide +kernel];clear ht c0 c1 c2 c3 c4 c5 c6 c7 c8 c9 c10 c11 c12 c13;generalize strOfNums t=s at *;go_enter func112,ntmps112;go_wp2;go_ret;exact⟨rfl,rfl⟩
 have TN:((strOfNums t).toList==[99,111,110,116,105,110,117,101])=false:=Zx ht (u:=[99,111,110,116,105,110,117,101]) δ c13;have hw:isWord t=false:=by unfold isWord words;simp[c0,c1,c2,c3,c4,c5,c6,c7,c8,c9,c10,c11,c12,c13]
 rw[hw];clear hw c0 c1 c2 c3 c4 c5 c6 c7 c8 c9 c10 c11 c12 c13;generalize strOfNums t=s at *;go_enter func112,ntmps112;go_wp2;go_ret;exact⟨rfl,rfl⟩
theorem Qpk(k:Int)(t:List Int)(ht:KC t)(at_:Int)(f:Bool)(w:World) :
 Calls prog 144 #[ξ #[ι γ k,σ (strOfNums t),ι γ at_,τ f]] w fun e w'=>e=ρ (τ (closes k t))∧w.alloc (θ #[ι γ k,σ (strOfNums t),ι γ at_,τ f] 140)=w':=by
 by_cases k2:k=2
 ·subst k2;rw[show closes 2 t=true from rfl];clear ht;generalize strOfNums t=s;go_enter func144,ntmps144;go_wp2;go_ret;exact⟨rfl,rfl⟩
 by_cases k3:k=3
 ·subst k3;rw[show closes 3 t=true from rfl];clear ht;generalize strOfNums t=s;go_enter func144,ntmps144;go_wp2;go_ret;exact⟨rfl,rfl⟩
 have q2:=Zc k2;have q3:=Zc k3;by_cases k1:k=1
 ·subst k1;have HW:=Lib.hid (fun w:World=>Č t ht w);have hcl:closes 1 t=(!isWord t||decide (t=bG)||decide (t=bE)||decide (t=bF)):=rfl;by_cases hw:isWord t=true
  ·rw[hw]at HW hcl;by_cases c0:t=[114,101,116,117,114,110]
   ·have b0:((strOfNums t).toList==[114,101,116,117,114,110])=true:=Zg (u:=[114,101,116,117,114,110]) c0;rw[show closes 1 t=true from by rw[c0];decide +kernel];clear hcl hw ht c0;generalize strOfNums t=s at *;go_enter func144,ntmps144;go_wp2_with (go_at_call 112;refine(HW.out _).mono ?_;rintro e w' ⟨rfl,rfl⟩);go_ret;exact⟨rfl,rfl⟩
   have b0:((strOfNums t).toList==[114,101,116,117,114,110])=false:=Zx ht (u:=[114,101,116,117,114,110]) δ c0;by_cases c1:t=[98,114,101,97,107]
   ·have b1:((strOfNums t).toList==[98,114,101,97,107])=true:=Zg (u:=[98,114,101,97,107]) c1;rw[show closes 1 t=true from by rw[c1];decide +kernel];clear hcl hw ht c0 c1;generalize strOfNums t=s at *;go_enter func144,ntmps144;go_wp2_with (go_at_call 112;refine(HW.out _).mono ?_;rintro e w' ⟨rfl,rfl⟩);go_ret;exact⟨rfl,rfl⟩
   have b1:((strOfNums t).toList==[98,114,101,97,107])=false:=Zx ht (u:=[98,114,101,97,107]) δ c1;by_cases c2:t=[99,111,110,116,105,110,117,101]
   ·have b2:((strOfNums t).toList==[99,111,110,116,105,110,117,101])=true:=Zg (u:=[99,111,110,116,105,110,117,101]) c2;rw[show closes 1 t=true from by rw[c2];decide +kernel];clear hcl hw ht c0 c1 c2;generalize strOfNums t=s at *;go_enter func144,ntmps144;go_wp2_with (go_at_call 112;refine(HW.out _).mono ?_;rintro e w' ⟨rfl,rfl⟩);go_ret;exact⟨rfl,rfl⟩
   have b2:((strOfNums t).toList==[99,111,110,116,105,110,117,101])=false:=Zx ht (u:=[99,111,110,116,105,110,117,101]) δ c2;have hc:closes 1 t=false:=by rw[hcl];unfold bG bE bF;simp[c0,c1,c2]
   rw[hc];clear hc hcl hw c0 c1 c2 ht;generalize strOfNums t=s at *;go_enter func144,ntmps144;go_wp2_with (go_at_call 112;refine(HW.out _).mono ?_;rintro e w' ⟨rfl,rfl⟩);go_ret;exact⟨rfl,rfl⟩
  ·have hw':isWord t=false:=by simpa using hw
   rw[hw']at HW hcl;have hc:closes 1 t=true:=by rw[hcl];simp
   rw[hc];clear hc hcl hw hw' ht;generalize strOfNums t=s at *;go_enter func144,ntmps144;go_wp2_with (go_at_call 112;refine(HW.out _).mono ?_;rintro e w' ⟨rfl,rfl⟩);go_ret;exact⟨rfl,rfl⟩
 have q1:=Zc k1;by_cases k4:k=4
 ·subst k4;clear q1 q2 q3 k1 k2 k3;by_cases c0:t=[41]
  ·have b0:((strOfNums t).toList==[41])=true:=Zg (u:=[41]) c0;rw[show closes 4 t=true from by rw[c0];decide +kernel];clear ht c0;generalize strOfNums t=s at *;go_enter func144,ntmps144;go_wp2;go_ret;exact⟨rfl,rfl⟩
  have b0:((strOfNums t).toList==[41])=false:=Zx ht (u:=[41]) δ c0;by_cases c1:t=[93]
  ·have b1:((strOfNums t).toList==[93])=true:=Zg (u:=[93]) c1;rw[show closes 4 t=true from by rw[c1];decide +kernel];clear ht c0 c1;generalize strOfNums t=s at *;go_enter func144,ntmps144;go_wp2;go_ret;exact⟨rfl,rfl⟩
  have b1:((strOfNums t).toList==[93])=false:=Zx ht (u:=[93]) δ c1;by_cases c2:t=[125]
  ·have b2:((strOfNums t).toList==[125])=true:=Zg (u:=[125]) c2;rw[show closes 4 t=true from by rw[c2];decide +kernel];clear ht c0 c1 c2;generalize strOfNums t=s at *;go_enter func144,ntmps144;go_wp2;go_ret;exact⟨rfl,rfl⟩
  have b2:((strOfNums t).toList==[125])=false:=Zx ht (u:=[125]) δ c2;by_cases c3:t=[43,43]
  ·have b3:((strOfNums t).toList==[43,43])=true:=Zg (u:=[43,43]) c3;rw[show closes 4 t=true from by rw[c3];decide +kernel];clear ht c0 c1 c2 c3;generalize strOfNums t=s at *;go_enter func144,ntmps144;go_wp2;go_ret;exact⟨rfl,rfl⟩
  have b3:((strOfNums t).toList==[43,43])=false:=Zx ht (u:=[43,43]) δ c3;by_cases c4:t=[45,45]
  ·have b4:((strOfNums t).toList==[45,45])=true:=Zg (u:=[45,45]) c4;rw[show closes 4 t=true from by rw[c4];decide +kernel];clear ht c0 c1 c2 c3 c4;generalize strOfNums t=s at *;go_enter func144,ntmps144;go_wp2;go_ret;exact⟨rfl,rfl⟩
  have b4:((strOfNums t).toList==[45,45])=false:=Zx ht (u:=[45,45]) δ c4;have hc:closes 4 t=false:=by show decide (t∈bO)=false;unfold bO;simp[c0,c1,c2,c3,c4]
  rw[hc];clear hc ht c0 c1 c2 c3 c4;generalize strOfNums t=s at *;go_enter func144,ntmps144;go_wp2;go_ret;exact⟨rfl,rfl⟩
 have q4:=Zc k4;have hc:closes k t=false:=by unfold closes;rw[if_neg ω,if_neg k1,if_neg k4]
 rw[hc];clear hc k1 k2 k3 k4 ht;generalize strOfNums t=s at *;go_enter func144,ntmps144;go_wp2;go_ret;exact⟨rfl,rfl⟩
