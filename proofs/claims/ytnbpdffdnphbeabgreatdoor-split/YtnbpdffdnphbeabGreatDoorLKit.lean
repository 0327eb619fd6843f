import Derived.Test.YtnbpdffdnphbeabGreatDoorDCel
import Derived.Test.YtnbpdffdnphbeabGreatDoorPWords
import Derived.Deep.CutBlock
set_option maxHeartbeats 3000000
set_option maxRecDepth 100000
namespace Go.Proofs.YtnbpdffdnphbeabGreatDoor
open Go.RowKit
variable{m:Nat}{a:Option Addr}{w':World}(w:World)(c n:Int)
def wV(c n:Int):Int:=if c<0 then (-(c+1)).tmod n else c.tmod n
theorem qQ(hn:0<n):0<=wV c n/\wV c n<n:=by
 unfold wV;split
 ·exact⟨Int.tmod_nonneg _ (by omega),Int.tmod_lt_of_pos _ hn⟩
 ·exact⟨Int.tmod_nonneg _ (by omega),Int.tmod_lt_of_pos _ hn⟩
def jA(c:Int):Prop := -9223372036854775808<=c/\c<=9223372036854775807
theorem Yt(hc:jA c)(hn:0<n)(hn2:n<=10000) :
 Calls Tryz.prog 41 #[.int .i64 c,.int .i64 n] w fun e w'=>e=.returned (.int .i64 (wV c n))/\w'=w:=by
 obtain⟨h1,h2⟩:=hc;have n0:(n==0)=false:=by rw[mq];omega
 by_cases h:c<0
 ·have e:wV c n=(-(c+1)).tmod n:=by unfold wV;rw[tl h]
  have b1:=(qQ c n hn).1;have b2:=(qQ c n hn).2;rw[e]at b1 b2 ⊢
  go_enter Tryz.func41,Tryz.ntmps41
  go_wp2_with fail
  go_ret
  exact⟨yP (Int.neg_tmod _ _).symm,rfl⟩
 ·have e:wV c n=c.tmod n:=by unfold wV;rw[tb h]
  have b1:=(qQ c n hn).1;have b2:=(qQ c n hn).2;rw[e]at b1 b2 ⊢
  go_enter Tryz.func41,Tryz.ntmps41
  go_wp2_with fail
  go_ret
  exact⟨yP (Int.tmod_eq_emod_of_nonneg (by omega)).symm,rfl⟩
structure C9(w:World)(a:Option Addr)(m:Nat)(h:Nat->Int):Prop where
 blk:0<m->∃g o,a=some ⟨g,o,none⟩/\∀i,i<m->w.cell? ⟨g,o+i,none⟩=some (.int .i64 (h i))
 few:m<=maxLen
 fit:∀i,i<m->jA (h i)
theorem C9.below{w:World}{h:Nat->Int}(H:C9 w a m h)(hb:Below w.heap.size w w'):C9 w' a m h :=
 ⟨fun h0=>let ⟨g,o,e,p⟩:=H.blk h0;⟨g,o,e,fun i hi=>by rw[hb.cell (p:=⟨g,o+i,none⟩) (yF (p i hi))];exact p i hi⟩,H.few,H.fit⟩
def YQ(m:Nat)(h:Nat->Int)(i:Nat):Int:=if i<m then h i else 0
theorem C9.in{w:World}{h:Nat->Int}(H:C9 w a m h)(i:Nat):jA (YQ m h i):=by
 unfold YQ;split
 ·rename_i hi;exact H.fit i hi
 ·unfold jA;omega
theorem zGH(a:Option Addr)(m c:Nat)(h:Nat->Int)(H:C9 w a m h)(i:Nat)(hi8:i<8) :
 Calls Tryz.prog 40 #[.slice a m c,.int .i64 i] w fun e w'=>e=.returned (.int .i64 (YQ m h i))/\w'=w:=by
 have hm:=H.few;unfold maxLen at hm;by_cases hi:i<m
 ·obtain⟨g,o,rfl,zLN⟩:=H.blk (by omega)
  have hc:=zLN i hi;have e:YQ m h i=h i:=by unfold YQ;rw[tl hi]
  rw[e];clear zLN H;generalize h i=z at *;have b:((i:Int)<(m:Int)):=by omega
  go_enter Tryz.func40,Tryz.ntmps40
  go_wp2_with fail
  go_ret
  exact⟨rfl,rfl⟩
 ·have e:YQ m h i=0:=by unfold YQ;rw[tb hi]
  rw[e];clear H;have b:¬((i:Int)<(m:Int)):=by omega
  go_enter Tryz.func40,Tryz.ntmps40
  go_wp2_with fail
  go_ret
  exact⟨rfl,rfl⟩
theorem zB5(f z:Int)(w:World)(T:TypeId)(fz:Nat × Nat):(w.alloc (.cells #[.int .u8 f,.int .u8 z] T fz)).cell? ⟨w.heap.size,0,none⟩=some (.int .u8 f)/\(w.alloc (.cells #[.int .u8 f,.int .u8 z] T fz)).cell? ⟨w.heap.size,1,none⟩=some (.int .u8 z) :=
 ⟨(zB (zG _ _) 0).trans rfl,(zB (zG _ _) 1).trans rfl⟩
theorem zB1(f:UInt8)(i:Nat)(hi:i<8)(c:Nat)(T:TypeId)(fz:Nat × Nat):(convert 118 9 (.slice (some ⟨w.heap.size,0,none⟩) 2 c)).run Tryz.prog (w.alloc (.cells #[.int .u8 (f.toNat:Int),.int .u8 (97+(i:Int))] T fz))=.ok (.string ⟨(xG f i).toArray⟩) (w.alloc (.cells #[.int .u8 (f.toNat:Int),.int .u8 (97+(i:Int))] T fz)):=by
 obtain⟨h0,h1⟩:=zB5 (f.toNat:Int) (97+(i:Int)) w T fz;have e1:((UInt8.ofNat (97+i)).toNat:Int)=97+(i:Int):=(show ∀i:Nat,i<8->((UInt8.ofNat (97+i)).toNat:Int)=97+(i:Int) by decide) i hi;refine run_convert_bytes_back (P:=Tryz.prog) _ 118 9 5 ⟨w.heap.size,0,none⟩ c (xG f i) Tryz.underlying118 Tryz.underlying5 Tryz.underlying9 (fun j hj=>?_);have e:(⟨w.heap.size,0,none⟩:Addr).add j=⟨w.heap.size,j,none⟩:=by simp[Addr.add];omega
 rw[e];have hj':j<2:=hj
 match j,hj,hj' with
 | 0,_,_=>exact h0
 | 1,_,_=>exact h1.trans (by rw[<-e1];rfl)
theorem dZ(f:UInt8)(i:Nat)(hi:i<8) :
 Calls Tryz.prog 19 #[.int .u8 (f.toNat:Int),.int .i64 i] w fun e w'=>e=.returned (.string ⟨(xG f i).toArray⟩)/\Below w.heap.size w w':=by
 have hcv:=zB1 w f i hi;have HB:Hid (∀o,Below w.heap.size w (w.alloc o)):=fun o=>gb (j1 _) o;generalize xG f i=nm at *;have hf:(f.toNat:Int)<256:=by have:=f.toNat_lt;omega
 have hf0:0<=(f.toNat:Int):=by omega
 generalize (f.toNat:Int)=fz at *
 go_enter Tryz.func19,Tryz.ntmps19
 go_wp2_with fail
 go_ret
 exact⟨rfl,HB.out _⟩
theorem Y0(hc:jA c)(hn:0<n)(hn2:n<=1099511627776) :
 Calls Tryz.prog 41 #[.int .i64 c,.int .i64 n] w fun e w'=>∃r:Nat,e=.returned (.int .i64 (r:Int))/\(r:Int)<n/\w'=w:=by
 obtain⟨h1,h2⟩:=hc;have n0:(n==0)=false:=by rw[mq];omega
 obtain⟨b1,b2⟩:=qQ c n hn;by_cases h:c<0
 ·have e:wV c n=(-(c+1)).tmod n:=by unfold wV;rw[tl h]
  obtain⟨r,hr⟩:∃r:Nat,(-(c+1)).tmod n=(r:Int):=⟨(wV c n).toNat,by rw[<-e];omega⟩;rw[e]at b1 b2;have HR:=zA hr;have HL:Hid ((r:Int)<n):=by unfold Hid;omega
  clear e hr
  go_enter Tryz.func41,Tryz.ntmps41
  go_wp2_with fail
  go_ret
  exact⟨r,yP ((Int.neg_tmod _ _).symm.trans HR.out),HL.out,rfl⟩
 ·have e:wV c n=c.tmod n:=by unfold wV;rw[tb h]
  obtain⟨r,hr⟩:∃r:Nat,c.tmod n=(r:Int):=⟨(wV c n).toNat,by rw[<-e];omega⟩;rw[e]at b1 b2;have HR:=zA hr;have HL:Hid ((r:Int)<n):=by unfold Hid;omega
  clear e hr
  go_enter Tryz.func41,Tryz.ntmps41
  go_wp2_with fail
  go_ret
  exact⟨r,yP ((Int.tmod_eq_emod_of_nonneg (by omega)).symm.trans HR.out),HL.out,rfl⟩
def yD(i:Nat):Bs:=if i<3 then xG 110 i else xG 102 (i-3)
theorem dD(i:Nat)(hi:i<5) :
 Calls Tryz.prog 44 #[.int .i64 (i:Int)] w fun e w'=>e=.returned (.string ⟨(yD i).toArray⟩)/\Below w.heap.size w w':=by
 by_cases h:i<3
 ·have e:yD i=xG 110 i:=by unfold yD;rw[tl h]
  have HN:=zA (dZ w 110 i (by omega));have b:(i:Int)<3:=by omega
  rw[e];generalize xG 110 i=nm at *
  go_enter Tryz.func44,Tryz.ntmps44
  go_wp2_with fail
  refine HN.out.mono ?_;rintro e w1 ⟨rfl,hb⟩;have HB:=zA hb;clear hb;go_wp2_with fail
  go_ret
  exact⟨rfl,HB.out⟩
 ·have e:yD i=xG 102 (i-3):=by unfold yD;rw[tb h]
  have HN:=zA (dZ w 102 (i-3) (by omega));have b:¬(i:Int)<3:=by omega
  have hc:((i-3:Nat):Int)=(i:Int)-3:=by omega
  rw[hc]at HN;rw[e];generalize xG 102 (i-3)=nm at *
  go_enter Tryz.func44,Tryz.ntmps44
  go_wp2_with fail
  refine HN.out.mono ?_;rintro e w1 ⟨rfl,hb⟩;have HB:=zA hb;clear hb;go_wp2_with fail
  go_ret
  exact⟨rfl,HB.out⟩
def bK(w:World)(a:Option Addr)(m:Nat):Prop:=∃h,C9 w a m h
theorem bK.below{w:World}(h:bK w a m)(hb:Below w.heap.size w w'):bK w' a m:=let ⟨f,H⟩:=h;⟨f,H.below hb⟩
theorem bK.at{w:World}(h:bK w a m){i:Nat}(hi:i<m):∃g o z,a=some ⟨g,o,none⟩/\w.cell? ⟨g,o+i,none⟩=some (.int .i64 z)/\jA z:=by
 obtain⟨f,H⟩:=h;obtain⟨g,o,e,hc⟩:=H.blk (by omega);exact⟨g,o,f i,e,hc i hi,H.fit i hi⟩
theorem bK.few{w:World}(h:bK w a m):m<=maxLen:=let ⟨_,H⟩:=h;H.few
structure Qv(w:World)(a:Option Addr)(m:Nat):Prop where
 blk:0<m->∃g o,a=some ⟨g,o,none⟩/\∀i,i<m->∃(b1 b2 b3:Bool) (k x y mk n:Int),(w.cell? ⟨g,o+i*8,none⟩=some (.bool b1)/\w.cell? ⟨g,o+i*8+1,none⟩=some (.bool b2)/\w.cell? ⟨g,o+i*8+2,none⟩=some (.bool b3)/\w.cell? ⟨g,o+i*8+3,none⟩=some (.int .i64 k)/\w.cell? ⟨g,o+i*8+4,none⟩=some (.int .i64 x)/\w.cell? ⟨g,o+i*8+5,none⟩=some (.int .i64 y)/\w.cell? ⟨g,o+i*8+6,none⟩=some (.int .i64 mk)/\w.cell? ⟨g,o+i*8+7,none⟩=some (.int .i64 n))/\(jA k/\jA x/\jA y/\jA mk/\jA n)
 few:m<=maxLen
theorem Qv.below{w:World}(h:Qv w a m)(hb:Below w.heap.size w w'):Qv w' a m:=by
 refine⟨fun h0=>?_,h.few⟩;obtain⟨g,o,e,hc⟩:=h.blk h0;refine⟨g,o,e,fun i hi=>?_⟩;obtain⟨b1,b2,b3,k,x,y,mk,n,⟨c0,c1,c2,c3,c4,c5,c6,c7⟩,hf⟩:=hc i hi;have t:=fun j v (h:w.cell? ⟨g,j,none⟩=some v)=>(hb.cell (p:=⟨g,j,none⟩) (yQ h)).trans h;exact⟨b1,b2,b3,k,x,y,mk,n,⟨t _ _ c0,t _ _ c1,t _ _ c2,t _ _ c3,t _ _ c4,t _ _ c5,t _ _ c6,t _ _ c7⟩,hf⟩
structure XY(w:World)(a:Option Addr)(m:Nat)(hd:Nat->Int):Prop where
 blk:0<m->∃g o,a=some ⟨g,o,none⟩/\∀i,i<m->∃(sa:Option Addr) (sn sc:Nat) (ta:Option Addr) (tn tc:Nat) (b:Bool) (ov:Int),(w.cell? ⟨g,o+i*5,none⟩=some (.int .i64 (hd i))/\w.cell? ⟨g,o+i*5+1,none⟩=some (.slice sa sn sc)/\w.cell? ⟨g,o+i*5+2,none⟩=some (.slice ta tn tc)/\w.cell? ⟨g,o+i*5+3,none⟩=some (.bool b)/\w.cell? ⟨g,o+i*5+4,none⟩=some (.int .i64 ov))/\jA (hd i)/\jA ov/\bK w sa sn/\Qv w ta tn
 few:m<=maxLen
theorem XY.below{w:World}{hd:Nat->Int}(h:XY w a m hd)(hb:Below w.heap.size w w'):XY w' a m hd:=by
 refine⟨fun h0=>?_,h.few⟩;obtain⟨g,o,e,hc⟩:=h.blk h0;refine⟨g,o,e,fun i hi=>?_⟩;obtain⟨sa,sn,sc,ta,tn,tc,b,ov,⟨c0,c1,c2,c3,c4⟩,f1,f2,f3,f4⟩:=hc i hi;have t:=fun j v (h:w.cell? ⟨g,j,none⟩=some v)=>(hb.cell (p:=⟨g,j,none⟩) (yQ h)).trans h;exact⟨sa,sn,sc,ta,tn,tc,b,ov,⟨t _ _ c0,t _ _ c1,t _ _ c2,t _ _ c3,t _ _ c4⟩,f1,f2,f3.below hb,f4.below hb⟩
structure yU where
 minus:Bool
 times:Bool
 n:Int
 num:Int
 head:Int
structure zR where
 or:Bool
 not:Bool
 pair:Bool
 kind:Int
 x:Int
 y:Int
 mark:Int
 n:Int
def nY(p:yU):List Value:=[.bool p.minus,.bool p.times,.int .i64 p.n,.int .i64 p.num,.int .i64 p.head]
def mT(t:zR):List Value:=[.bool t.or,.bool t.not,.bool t.pair,.int .i64 t.kind,.int .i64 t.x,.int .i64 t.y,.int .i64 t.mark,.int .i64 t.n]
def fK(low:List Nat):List Value:=low.map fun d:Nat=>.int .i64 (d:Int)
def jR(low:List Nat)(p:yU):Prop :=
 (p.times=false/\(0<=p.n/\p.n<=9999)/\p.num = -1/\p.head = -1)\/(p.times=false/\(0<=p.num/\p.num<3)/\p.head = -1) \/
 (p.times=true/\(0<=p.n/\p.n<=9)/\(0<=p.num/\p.num<3)/\p.head = -1)\/((0<=p.n/\p.n<=9)/\p.num = -1/\∃d,d∈low/\p.head=(d:Nat))
def xL(low:List Nat)(t:zR):Prop :=
 t.kind=0\/(t.kind=1/\3<=t.x/\t.x<5)\/(t.kind=2/\∃d,d∈low/\t.x=(d:Nat)) \/
 ((t.kind=3\/t.kind=4)/\(0<=t.x/\t.x<3)/\(0<=t.y/\t.y<3)/\(0<=t.mark/\t.mark<6)/\(0<=t.n/\t.n<=9999))
def jG(low:List Nat)(ps:List yU):Prop:=0<ps.length/\ps.length<=4/\∀p∈ps,jR low p
def qX(low:List Nat)(ts:List zR):Prop:=0<ts.length/\ts.length<=6/\∀t∈ts,xL low t
def zm(p:yU):Prop:=p.times=true\/p.n=1\/(p.num = -1/\p.head = -1)
def mF(ps:List yU):Prop:=(∀p∈ps,zm p)/\∀p r,ps=p::r->p.minus=false
theorem YL{α:Type}{P:α->Prop}{l:List α}{x:α}(h:∀y∈l,P y)(hx:P x):∀y∈l++[x],P y:=fun y hy=>by
 rcases pu.1 hy with h1|h1
 ·exact h y h1
 ·rw[pr.1 h1];exact hx
theorem mF.nil:mF []:=⟨fun p hp=>(by cases hp),fun p r h=>(by cases h)⟩
theorem mF.snoc{ps:List yU}(h:mF ps){q:yU}(h1:zm q)(h2:ps.length=0->q.minus=false):mF (ps++[q]):=by
 refine⟨YL h.1 h1,fun p r e=>?_⟩
 cases ps with
 | nil=>rw[db]at e;injection e with e1 e2;rw[<-e1];exact h2 rfl
 | cons x l=>rw[cf]at e;injection e with e1 e2;rw[<-e1];exact h.2 x l rfl
theorem zIG:(Tryz.prog.info? 89).map (fun i=>(i.zero,i.size,i.bytes))=some (some (.agg #[.bool false,.bool false,.int .i64 0,.int .i64 0,.int .i64 0]),5,32):=by kernel_rfl
theorem zIF:(Tryz.prog.info? 87).map (fun i=>(i.zero,i.size,i.bytes))=some (some (.agg #[.bool false,.bool false,.bool false,.int .i64 0,.int .i64 0,.int .i64 0,.int .i64 0,.int .i64 0]),8,48):=by kernel_rfl
theorem zJ0(sa la:Option Addr)(sn sc lc:Nat)(low:List Nat)(hS:bK w sa sn)(hL:tZ w la (fK low))(hl4:low.length<=4) :
 Calls Tryz.prog 42 #[.slice sa sn sc,.slice la low.length lc] w fun e w'=>∃ps v,e=.returned v/\(jG low ps/\mF ps)/\w'.ownsRow w.heap.size 89 5 v ps.length (ps.flatMap nY)/\Below w.heap.size w w':=by
 obtain⟨i0,hi0,hz0,hz1,hz2⟩:=info_parts zIG;have zLE:=hS.few;unfold maxLen at zLE;have HS:=zA (fun w' (hb:Below w.heap.size w w')=>hS.below hb);have HL:=zA (fun w' (hb:Below w.heap.size w w')=>hL.below hb);have HPk:=zA Y0;clear hS hL
 go_enter Tryz.func42,Tryz.ntmps42
 go_wp2_with fail
 go_loopw [5,6] (fun ov iv wr=>∃(i:Nat) (ps:List yU),i<=sn/\i<=4/\iv=.int .i64 i/\ps.length=i/\Hid (Below w.heap.size w wr)/\Hid (wr.ownsRow w.heap.size 89 5 ov i (ps.flatMap nY))/\Hid (∀p∈ps,jR low p)/\Hid (mF ps)) (fun _ iv _=>4-(intOf iv).toNat)
 case atStart=>exact⟨0,[],p7 _,p7 _,rfl,rfl,zA (tg _ _),zA (ly _ _ _ _),zA (fun p hp=>by cases hp),zA mF.nil⟩
 case round =>
  obtain⟨i,ps,hi,hi4,rfl,hps,HB,HO,HP,HU9⟩:=hrel;obtain⟨oa,oc,rfl⟩:=zP HO.out;by_cases zKZ:i<sn/\i<4
  ·have c1:(i:Int)<(sn:Int):=by omega
   have c2:(i:Int)<4:=by omega
   obtain⟨g,o,z,rfl,cz,hz⟩:=(HS.out wr HB.out).at zKZ.1;have HPw:=zA (HPk.out wr z 1099511627776 hz (by decide) (by decide));go_wp2_with fail
   refine HPw.out.mono ?_;rintro e w2 ⟨u,rfl,hu,hw⟩;obtain rfl:=hw.symm;clear HPw HPk;have HU:=zA hu;have hu2:(u:Int)<=9223372036854775807:=by omega
   clear hu;have hx0:0<=(u:Int)/8:=by omega
   have hx1:(u:Int)/8<=9223372036854775807:=by omega
   go_upto_region 7 with fail
   obtain⟨x,hx⟩:∃x:Nat,(u:Int)/8=(x:Int):=⟨u/8,by omega⟩;have HXu:Hid ((x:Int)<=137438953471):=by unfold Hid;have:=HU.out;omega
   rw[hx];have HC1:=zA c1;have HC2:=zA c2;have HPs:=zA hps;clear hx hx0 hx1 c1 c2 zKZ hps cz
   go_cut [9] from 10 to 88 (fun v9 wx=>∃mi:Bool,v9=.pointer (some ⟨wr.heap.size,0,none⟩)/\Hid (wx=wr.alloc (.cells #[.bool mi,.bool false,.int .i64 1,.int .i64 (-1),.int .i64 (-1)] 89))/\Hid (i=0->mi=false))
   case first =>
    by_cases k0:i=0
    ·subst k0
     go_wp2_with fail
     go_meet
     exact⟨false,rfl,zA rfl,zA fun _=>rfl⟩
    ·have k1:0<i:=by omega
     have k2:(0:Int)<(i:Int):=by omega
     clear k0;have y0:0<=(u:Int)/4:=by omega
     have y1:(u:Int)/4<=9223372036854775807:=by omega
     have y2:0<=(u:Int)/4%2:=by omega
     have y3:(u:Int)/4%2<=9223372036854775807:=by omega
     go_wp2_with fail
     go_meet
     exact⟨_,rfl,zA rfl,zA fun e=>absurd e (by omega)⟩
   case rest =>
    obtain⟨mi,rfl,HW,HMi⟩:=hcut;have HX:Hid (wc.heap[wr.heap.size]? = some (.cells #[.bool mi,.bool false,.int .i64 1,.int .i64 (-1),.int .i64 (-1)] 89 (0,0))):=by unfold Hid;rw[HW.out];exact zG _ _
    have HBc:Hid (Below wr.heap.size wr wc):=by unfold Hid;rw[HW.out];exact gb (j1 _) _
    have HFz:Hid (∀k,wc.frozen? ⟨wr.heap.size,k,none⟩=false):=fun k=>by simp[World.frozen?,HX.out]
    clear HW
    go_upto_block 2 with fail
    go_cut [9] from 10 to 88 (fun v9 wx=>∃p:yU,v9=.pointer (some ⟨wr.heap.size,0,none⟩)/\Hid (wx.heap[wr.heap.size]? = some (.cells (nY p).toArray 89 (0,0)))/\Hid (jR low p/\zm p/\(i=0->p.minus=false))/\Hid (Below wr.heap.size wr wx))
    case first =>
     have f1:=HFz.out 1;have f2:=HFz.out 2;have f3:=HFz.out 3;have f4:=HFz.out 4;have c1:wc.cell? ⟨wr.heap.size,1,none⟩=some (.bool false):=zB HX.out 1;have c2:wc.cell? ⟨wr.heap.size,2,none⟩=some (.int .i64 1):=zB HX.out 2;have c3:wc.cell? ⟨wr.heap.size,3,none⟩=some (.int .i64 (-1)):=zB HX.out 3;have c4:wc.cell? ⟨wr.heap.size,4,none⟩=some (.int .i64 (-1)):=zB HX.out 4;have y0:0<=(u:Int)%4:=by omega
     have y1:(u:Int)%4<=9223372036854775807:=by omega
     have z0:0<=(x:Int)%3:=by omega
     have z1:(x:Int)%3<=9223372036854775807:=by omega
     have z2:0<=(x:Int)%10:=by omega
     have z3:(x:Int)%10<=9223372036854775807:=by omega
     have z4:0<=(x:Int)/10:=by omega
     have z5:(x:Int)/10<=9223372036854775807:=by have:=HXu.out;omega
     have z6:0<=(x:Int)/10%3:=by omega
     have z7:(x:Int)/10%3<=9223372036854775807:=by omega
     have z8:0<=(x:Int)%10000:=by omega
     have z9:(x:Int)%10000<=9223372036854775807:=by omega
     have hu4:(u:Int)%4=0\/(u:Int)%4=1\/(u:Int)%4=2\/(u:Int)%4=3:=by omega
     have q1:0<=(x:Int)%10000/\(x:Int)%10000<=9999:=by omega
     have q2:0<=(x:Int)%3/\(x:Int)%3<3:=by omega
     have q3:0<=(x:Int)%10/\(x:Int)%10<=9:=by omega
     have q4:0<=(x:Int)/10%3/\(x:Int)/10%3<3:=by omega
     have Q1:=zA q1;have Q2:=zA q2;have Q3:=zA q3;have Q4:=zA q4;clear q1 q2 q3 q4;rcases hu4 with hm|hm|hm|hm
     ·go_wp2_with fail
      go_meet
      exact⟨⟨mi,false,(x:Int)%10000,-1,-1⟩,rfl,zA ((tr _ _ _ _ _ _ HX.out).trans rfl),zA ⟨.inl ⟨rfl,Q1.out,rfl,rfl⟩,.inr (.inr ⟨rfl,rfl⟩),HMi.out⟩,zA (HBc.out.setCell (j1 _) _)⟩
     ·go_wp2_with fail
      go_meet
      exact⟨⟨mi,false,1,(x:Int)%3,-1⟩,rfl,zA ((tr _ _ _ _ _ _ HX.out).trans rfl),zA ⟨.inr (.inl ⟨rfl,Q2.out,rfl⟩),.inr (.inl rfl),HMi.out⟩,zA (HBc.out.setCell (j1 _) _)⟩
     ·go_wp2_with fail
      go_meet
      exact⟨⟨mi,true,(x:Int)%10,(x:Int)/10%3,-1⟩,rfl,zA ((tr _ _ _ _ _ _ (tr _ _ _ _ _ _ (tr _ _ _ _ _ _ HX.out))).trans rfl),zA ⟨.inr (.inr (.inl ⟨rfl,Q3.out,Q4.out,rfl⟩)),.inl rfl,HMi.out⟩,zA (((HBc.out.setCell (j1 _) _).setCell (j1 _) _).setCell (j1 _) _)⟩
     ·by_cases hl0:low=[]
      ·subst hl0
       go_wp2_with fail
       go_meet
       exact⟨⟨mi,false,(x:Int)%10000,-1,-1⟩,rfl,zA ((tr _ _ _ _ _ _ HX.out).trans rfl),zA ⟨.inl ⟨rfl,Q1.out,rfl,rfl⟩,.inr (.inr ⟨rfl,rfl⟩),HMi.out⟩,zA (HBc.out.setCell (j1 _) _)⟩
      ·have hlp:0<low.length:=by cases low with|nil=>exact absurd rfl hl0|cons _ _=>simp
       have hlp2:(0:Int)<(low.length:Int):=by omega
       have n0:((low.length:Int)==0)=false:=by rw[mq];omega
       obtain⟨d,hd⟩:∃d:Nat,(x:Int)/10%(low.length:Int)=(d:Int):=⟨((x:Int)/10%(low.length:Int)).toNat,by have:=Int.emod_nonneg ((x:Int)/10) (show (low.length:Int)≠0 by omega);omega⟩;have hdl:d<low.length:=by have:=Int.emod_lt_of_pos ((x:Int)/10) hlp2;omega
       have hdl2:(d:Int)<(low.length:Int):=by omega
       obtain⟨gl,rfl,cl⟩:=(HL.out wc (HB.out.trans (HBc.out.mono HB.out.size))).at (show (fK low)[d]? = some (.int .i64 ((low.getD d 0:Nat):Int)) by simp[fK,List.getD,hdl]);have hmem:low.getD d 0∈low:=by simp[List.getD,hdl]
       have ngl:wr.heap.size≠gl:=by
        obtain⟨g',e',cl'⟩:=(HL.out w (tg _ _)).at (show (fK low)[d]? = some (.int .i64 ((low.getD d 0:Nat):Int)) by simp[fK,List.getD,hdl]);obtain rfl:gl=g':=by simpa using e'
        have:=yQ cl';have:=HB.out.size;omega
       clear hl0;generalize low.getD d 0=dd at *;have Q0:Hid (0<=(1:Int)/\(1:Int)<=9):=⟨by decide,by decide⟩;by_cases k0:(x:Int)%10=0
       ·go_wp2_with fail
        go_meet
        exact⟨⟨mi,false,1,-1,dd⟩,rfl,zA ((tr _ _ _ _ _ _ (tr _ _ _ _ _ _ HX.out)).trans rfl),zA ⟨.inr (.inr (.inr ⟨Q0.out,rfl,dd,hmem,rfl⟩)),.inr (.inl rfl),HMi.out⟩,zA ((HBc.out.setCell (j1 _) _).setCell (j1 _) _)⟩
       ·have k1:0<(x:Int)%10:=by omega
        clear k0;go_wp2_with fail
        go_meet
        exact⟨⟨mi,true,(x:Int)%10,-1,dd⟩,rfl,zA ((tr _ _ _ _ _ _ (tr _ _ _ _ _ _ (tr _ _ _ _ _ _ HX.out))).trans rfl),zA ⟨.inr (.inr (.inr ⟨Q3.out,rfl,dd,hmem,rfl⟩)),.inl rfl,HMi.out⟩,zA (((HBc.out.setCell (j1 _) _).setCell (j1 _) _).setCell (j1 _) _)⟩
    case rest =>
     obtain⟨p,rfl,HX1,HP1,HB1⟩:=hcut;obtain⟨mi',ti,nn,nu,hd⟩:=p;have c0:wc.cell? ⟨wr.heap.size,0,none⟩=some (.bool mi'):=zB HX1.out 0;have c1:wc.cell? ⟨wr.heap.size,1,none⟩=some (.bool ti):=zB HX1.out 1;have c2:wc.cell? ⟨wr.heap.size,2,none⟩=some (.int .i64 nn):=zB HX1.out 2;have c3:wc.cell? ⟨wr.heap.size,3,none⟩=some (.int .i64 nu):=zB HX1.out 3;have c4:wc.cell? ⟨wr.heap.size,4,none⟩=some (.int .i64 hd):=zB HX1.out 4;have HO1:=zA (uV HO.out HB1.out);have zLJ:Hid (Below w.heap.size w wc):=HB.out.trans (HB1.out.mono HB.out.size);have zL8:w.heap.size<=wc.heap.size:=zLJ.out.size;have HP6:Hid (∀p∈ps++[(⟨mi',ti,nn,nu,hd⟩:yU)],jR low p):=YL HP.out HP1.out.1;have HU6:Hid (mF (ps++[(⟨mi',ti,nn,nu,hd⟩:yU)])):=HU9.out.snoc HP1.out.2.1 fun e=>HP1.out.2.2 (by rw[<-HPs.out,e]);clear HX1 HX HBc HFz HB1 HO HP HU9 HP1 HMi
     go_wp2_with (at_builtin;refine wpList_append_own _ rfl _ _ 82 rfl w.heap.size 89 i0 _ 5 32 Tryz.underlying82 hi0 hz0 hz1 hz2 rfl (by decide) _ _ _ rfl (HO1.out.alloc _) ⟨wc.heap.size,0,none⟩ 1 1 [.bool mi',.bool ti,.int .i64 nn,.int .i64 nu,.int .i64 hd] rfl rfl ?c1k1 ?c1k2 ?c1k3 ?c1k4 ?c1k5 ?_)
     try (case c1k1=>exact zM _ _ _ _ rfl)
     try (case c1k2=>first|exact⟨rfl,rfl,rfl,rfl,rfl⟩|(intro u hu;simp at hu;rcases hu with rfl|rfl|rfl|rfl|rfl <;> rfl))
     try (case c1k3=>unfold maxLen;omega)
     try (case c1k4=>omega)
     try (case c1k5=>first|omega|(simp;omega))
     intro v6 w6 zL0 zKY _;have HB6:Hid (Below w.heap.size w w6):=(zLJ.out.alloc zL8 _).grown zKY (by simp;omega) (zU HO1.out);have HO6:Hid (w6.ownsRow w.heap.size 89 5 v6 (i+1) ((ps++[(⟨mi',ti,nn,nu,hd⟩:yU)]).flatMap nY)):=by unfold Hid;rw[lu];exact zL0
     have hl6:(ps++[(⟨mi',ti,nn,nu,hd⟩:yU)]).length=i+1:=by simp[HPs.out]
     clear zL0 zKY;have hi4':i+1<=4:=by have:=HC2.out;omega
     have his:i+1<=sn:=by have:=HC1.out;omega
     go_wp2_with fail
     go_roundw
     case rel=>exact⟨i+1,ps++[⟨mi',ti,nn,nu,hd⟩],his,hi4',by go_num,hl6,HB6,HO6,HP6,HU6⟩
     case measure=>simp[intOf];omega
  ·have HPs:=zA hps
   have zLN:¬i<sn\/(i<sn/\i=4):=by omega
   clear zKZ hps;by_cases h0:i=0
   ·subst h0
    have hsn:sn=0:=by omega
    subst hsn;clear zLN HP HU9
    go_wp2_with (at_builtin;refine wpList_append_own _ rfl _ _ 82 rfl w.heap.size 89 i0 _ 5 32 Tryz.underlying82 hi0 hz0 hz1 hz2 rfl (by decide) _ _ _ rfl (HO.out.alloc _) ⟨wr.heap.size,0,none⟩ 1 1 [.bool false,.bool false,.int .i64 0,.int .i64 (-1),.int .i64 (-1)] rfl rfl ?c1k1 ?c1k2 ?c1k3 ?c1k4 ?c1k5 ?_)
    try (case c1k1=>exact zM _ _ _ _ rfl)
    try (case c1k2=>intro u hu;simp at hu;rcases hu with rfl|rfl|rfl <;> rfl)
    try (case c1k3=>unfold maxLen;omega)
    try (case c1k4=>omega)
    try (case c1k5=>have:=HB.out.size;simp;omega)
    intro v6 w6 zL0 zKY _;have HB6:Hid (Below w.heap.size w w6):=(HB.out.alloc HB.out.size _).grown zKY (by have:=HB.out.size;simp;omega) (zU HO.out);have hnil:ps=[]:=my HPs.out;subst hnil;have HO6:=zA zL0;have HPo:Hid (jG low [⟨false,false,0,-1,-1⟩]/\mF [⟨false,false,0,-1,-1⟩]):=⟨⟨by simp,by simp,fun p hp=>by rw[pr.1 hp];exact .inl ⟨rfl,⟨by decide,by decide⟩,rfl,rfl⟩⟩,mF.nil.snoc (.inr (.inr ⟨rfl,rfl⟩)) fun _=>rfl⟩;clear zL0 zKY;go_wp2_with fail
    go_ret
    exact⟨[⟨false,false,0,-1,-1⟩],_,rfl,HPo.out,HO6.out,HB6.out⟩
   ·have HQ:Hid (∃ps' v,Ending.returned (.slice oa i oc)=.returned v/\(jG low ps'/\mF ps')/\wr.ownsRow w.heap.size 89 5 v ps'.length (ps'.flatMap nY)/\Below w.heap.size w wr):=⟨ps,_,rfl,⟨⟨by rw[HPs.out];omega,by rw[HPs.out];exact hi4,HP.out⟩,HU9.out⟩,by rw[HPs.out];exact HO.out,HB.out⟩
    have k0:((i:Int)==0)=false:=by rw[mq];omega
    clear h0;rcases zLN with hc|⟨hc,h4⟩
    ·have c1:¬(i:Int)<(sn:Int):=by omega
     go_wp2_with fail
     go_ret
     exact HQ.out
    ·subst h4
     have c1:((4:Nat):Int)<(sn:Int):=by omega
     have c2:(4:Int)<(sn:Int):=by omega
     go_wp2_with fail
     go_ret
     exact HQ.out
end Go.Proofs.YtnbpdffdnphbeabGreatDoor
