import Derived.Test.YtnbpdffdnphbeabGreatDoorDCel
import Derived.Test.YtnbpdffdnphbeabGreatDoorPWords
import Derived.Deep.CutBlock
open Go.Proofs.Tryz
set_option maxHeartbeats 3000000
set_option maxRecDepth 100000
namespace Go.Proofs.YtnbpdffdnphbeabGreatDoor
open Go.RowKit
variable{m:Nat}{a:Option Addr}{w':World}(w:World)(c n:Int)
def Jo(c n:Int):Int:=if c<0 then (-(c+1)).tmod n else c.tmod n
theorem jF(hn:0<n):0<=Jo c n/\Jo c n<n:=by
 unfold Jo;split
 ·exact⟨Int.tmod_nonneg _ (by omega),Int.tmod_lt_of_pos _ hn⟩
 ·exact⟨Int.tmod_nonneg _ (by omega),Int.tmod_lt_of_pos _ hn⟩
def pA(c:Int):Prop := -9223372036854775808<=c/\c<=9223372036854775807
theorem Vm(hc:pA c)(hn:0<n)(ax:n<=10000) :
 Calls prog 41 #[.int .i64 c,.int .i64 n] w λe w'=>e=.returned (.int .i64 (Jo c n))/\w'=w:=by
 obtain⟨h1,h2⟩:=hc;have n0:(n==0)=false:=by rw[lj];omega
 by_cases h:c<0
 ·have e:Jo c n=(-(c+1)).tmod n:=by unfold Jo;rw[tr h]
  have b1:=(jF c n hn).1;have b2:=(jF c n hn).2;rw[e]at b1 b2 ⊢
  go_enter func41,ntmps41
  go_wp2_with fail
  go_ret
  exact⟨yY (Int.neg_tmod _ _).symm,rfl⟩
 ·have e:Jo c n=c.tmod n:=by unfold Jo;rw[tj h]
  have b1:=(jF c n hn).1;have b2:=(jF c n hn).2;rw[e]at b1 b2 ⊢
  go_enter func41,ntmps41
  go_wp2_with fail
  go_ret
  exact⟨yY (Int.tmod_eq_emod_of_nonneg (by omega)).symm,rfl⟩
structure Fo(w:World)(a:Option Addr)(m:Nat)(h:Nat->Int):Prop where
 blk:0<m->∃g o,a=some ⟨g,o,none⟩/\∀i,i<m->w.cell? ⟨g,o+i,none⟩=some (.int .i64 (h i))
 aj:m<=maxLen
 fit:∀i,i<m->pA (h i)
theorem Fo.below{w:World}{h:Nat->Int}(H:Fo w a m h)(hb:Below w.heap.size w w'):Fo w' a m h :=
 ⟨λh0=>let ⟨g,o,e,p⟩:=H.blk h0;⟨g,o,e,λi hi=>by rw[hb.cell (p:=⟨g,o+i,none⟩) (uM (p i hi))];exact p i hi⟩,H.aj,H.fit⟩
def XT(m:Nat)(h:Nat->Int)(i:Nat):Int:=if i<m then h i else 0
theorem Fo.in{w:World}{h:Nat->Int}(H:Fo w a m h)(i:Nat):pA (XT m h i):=by
 unfold XT;split
 ·rename_i hi;exact H.fit i hi
 ·unfold pA;omega
theorem II(a:Option Addr)(m c:Nat)(h:Nat->Int)(H:Fo w a m h)(i:Nat)(bL:i<8) :
 Calls prog 40 #[.slice a m c,.int .i64 i] w λe w'=>e=.returned (.int .i64 (XT m h i))/\w'=w:=by
 have hm:=H.aj;unfold maxLen at hm;by_cases hi:i<m
 ·obtain⟨g,o,rfl,aL⟩:=H.blk (by omega)
  have hc:=aL i hi;have e:XT m h i=h i:=by unfold XT;rw[tr hi]
  rw[e];clear aL H;generalize h i=z at *;have b:((i:Int)<(m:Int)):=by omega
  go_enter func40,ntmps40
  go_wp2_with fail
  go_ret
  exact⟨rfl,rfl⟩
 ·have e:XT m h i=0:=by unfold XT;rw[tj hi]
  rw[e];clear H;have b:¬((i:Int)<(m:Int)):=by omega
  go_enter func40,ntmps40
  go_wp2_with fail
  go_ret
  exact⟨rfl,rfl⟩
theorem Pp(f z:Int)(w:World)(T:TypeId)(fz:Nat × Nat):(w.alloc (.cells #[.int .u8 f,.int .u8 z] T fz)).cell? ⟨w.heap.size,0,none⟩=some (.int .u8 f)/\(w.alloc (.cells #[.int .u8 f,.int .u8 z] T fz)).cell? ⟨w.heap.size,1,none⟩=some (.int .u8 z) :=
 ⟨(zC (zF _ _) 0).trans rfl,(zC (zF _ _) 1).trans rfl⟩
theorem Pv(f:UInt8)(i:Nat)(hi:i<8)(c:Nat)(T:TypeId)(fz:Nat × Nat):(convert 118 9 (.slice (some ⟨w.heap.size,0,none⟩) 2 c)).run prog (w.alloc (.cells #[.int .u8 (f.toNat:Int),.int .u8 (97+(i:Int))] T fz))=.ok (.string ⟨(xU f i).toArray⟩) (w.alloc (.cells #[.int .u8 (f.toNat:Int),.int .u8 (97+(i:Int))] T fz)):=by
 obtain⟨h0,h1⟩:=Pp (f.toNat:Int) (97+(i:Int)) w T fz;have e1:((UInt8.ofNat (97+i)).toNat:Int)=97+(i:Int):=(show ∀i:Nat,i<8->((UInt8.ofNat (97+i)).toNat:Int)=97+(i:Int) by decide) i hi;refine run_convert_bytes_back (P:=prog) _ 118 9 5 ⟨w.heap.size,0,none⟩ c (xU f i) underlying118 underlying5 underlying9 (λj hj=>?_);have e:(⟨w.heap.size,0,none⟩:Addr).add j=⟨w.heap.size,j,none⟩:=by simp[Addr.add];omega
 rw[e];have az:j<2:=hj
 match j,hj,az with
 | 0,_,_=>exact h0
 | 1,_,_=>exact h1.trans (by rw[<-e1];rfl)
theorem bR(f:UInt8)(i:Nat)(hi:i<8) :
 Calls prog 19 #[.int .u8 (f.toNat:Int),.int .i64 i] w λe w'=>e=.returned (.string ⟨(xU f i).toArray⟩)/\Below w.heap.size w w':=by
 have hcv:=Pv w f i hi;have HB:Hid (∀o,Below w.heap.size w (w.alloc o)):=λo=>fk (tg _) o;generalize xU f i=nm at *;have hf:(f.toNat:Int)<256:=by have:=f.toNat_lt;omega
 have bM:0<=(f.toNat:Int):=by omega
 generalize (f.toNat:Int)=fz at *
 go_enter func19,ntmps19
 go_wp2_with fail
 go_ret
 exact⟨rfl,HB.out _⟩
theorem V0(hc:pA c)(hn:0<n)(ax:n<=1099511627776) :
 Calls prog 41 #[.int .i64 c,.int .i64 n] w λe w'=>∃r:Nat,e=.returned (.int .i64 (r:Int))/\(r:Int)<n/\w'=w:=by
 obtain⟨h1,h2⟩:=hc;have n0:(n==0)=false:=by rw[lj];omega
 obtain⟨b1,b2⟩:=jF c n hn;by_cases h:c<0
 ·have e:Jo c n=(-(c+1)).tmod n:=by unfold Jo;rw[tr h]
  obtain⟨r,hr⟩:∃r:Nat,(-(c+1)).tmod n=(r:Int):=⟨(Jo c n).toNat,by rw[<-e];omega⟩;rw[e]at b1 b2;have HR:=zA hr;have HL:Hid ((r:Int)<n):=by unfold Hid;omega
  clear e hr
  go_enter func41,ntmps41
  go_wp2_with fail
  go_ret
  exact⟨r,yY ((Int.neg_tmod _ _).symm.trans HR.out),HL.out,rfl⟩
 ·have e:Jo c n=c.tmod n:=by unfold Jo;rw[tj h]
  obtain⟨r,hr⟩:∃r:Nat,c.tmod n=(r:Int):=⟨(Jo c n).toNat,by rw[<-e];omega⟩;rw[e]at b1 b2;have HR:=zA hr;have HL:Hid ((r:Int)<n):=by unfold Hid;omega
  clear e hr
  go_enter func41,ntmps41
  go_wp2_with fail
  go_ret
  exact⟨r,yY ((Int.tmod_eq_emod_of_nonneg (by omega)).symm.trans HR.out),HL.out,rfl⟩
def xC(i:Nat):Bs:=if i<3 then xU 110 i else xU 102 (i-3)
theorem fG(i:Nat)(hi:i<5) :
 Calls prog 44 #[.int .i64 (i:Int)] w λe w'=>e=.returned (.string ⟨(xC i).toArray⟩)/\Below w.heap.size w w':=by
 by_cases h:i<3
 ·have e:xC i=xU 110 i:=by unfold xC;rw[tr h]
  have HN:=zA (bR w 110 i (by omega));have b:(i:Int)<3:=by omega
  rw[e];generalize xU 110 i=nm at *
  go_enter func44,ntmps44
  go_wp2_with fail
  refine HN.out.mono ?_;rintro e w1 ⟨rfl,hb⟩;have HB:=zA hb;clear hb;go_wp2_with fail
  go_ret
  exact⟨rfl,HB.out⟩
 ·have e:xC i=xU 102 (i-3):=by unfold xC;rw[tj h]
  have HN:=zA (bR w 102 (i-3) (by omega));have b:¬(i:Int)<3:=by omega
  have hc:((i-3:Nat):Int)=(i:Int)-3:=by omega
  rw[hc]at HN;rw[e];generalize xU 102 (i-3)=nm at *
  go_enter func44,ntmps44
  go_wp2_with fail
  refine HN.out.mono ?_;rintro e w1 ⟨rfl,hb⟩;have HB:=zA hb;clear hb;go_wp2_with fail
  go_ret
  exact⟨rfl,HB.out⟩
def dG(w:World)(a:Option Addr)(m:Nat):Prop:=∃h,Fo w a m h
theorem dG.below{w:World}(h:dG w a m)(hb:Below w.heap.size w w'):dG w' a m:=let ⟨f,H⟩:=h;⟨f,H.below hb⟩
theorem dG.at{w:World}(h:dG w a m){i:Nat}(hi:i<m):∃g o z,a=some ⟨g,o,none⟩/\w.cell? ⟨g,o+i,none⟩=some (.int .i64 z)/\pA z:=by
 obtain⟨f,H⟩:=h;obtain⟨g,o,e,hc⟩:=H.blk (by omega);exact⟨g,o,f i,e,hc i hi,H.fit i hi⟩
theorem dG.aj{w:World}(h:dG w a m):m<=maxLen:=let ⟨_,H⟩:=h;H.aj
structure J6(w:World)(a:Option Addr)(m:Nat):Prop where
 blk:0<m->∃g o,a=some ⟨g,o,none⟩/\∀i,i<m->∃(b1 b2 b3:Bool) (k x y mk n:Int),(w.cell? ⟨g,o+i*8,none⟩=some (.bool b1)/\w.cell? ⟨g,o+i*8+1,none⟩=some (.bool b2)/\w.cell? ⟨g,o+i*8+2,none⟩=some (.bool b3)/\w.cell? ⟨g,o+i*8+3,none⟩=some (.int .i64 k)/\w.cell? ⟨g,o+i*8+4,none⟩=some (.int .i64 x)/\w.cell? ⟨g,o+i*8+5,none⟩=some (.int .i64 y)/\w.cell? ⟨g,o+i*8+6,none⟩=some (.int .i64 mk)/\w.cell? ⟨g,o+i*8+7,none⟩=some (.int .i64 n))/\(pA k/\pA x/\pA y/\pA mk/\pA n)
 aj:m<=maxLen
theorem J6.below{w:World}(h:J6 w a m)(hb:Below w.heap.size w w'):J6 w' a m:=by
 refine⟨λh0=>?_,h.aj⟩;obtain⟨g,o,e,hc⟩:=h.blk h0;refine⟨g,o,e,λi hi=>?_⟩;obtain⟨b1,b2,b3,k,x,y,mk,n,⟨c0,c1,c2,c3,c4,c5,c6,c7⟩,hf⟩:=hc i hi;have t:=λj v (h:w.cell? ⟨g,j,none⟩=some v)=>(hb.cell (p:=⟨g,j,none⟩) (yJ h)).trans h;exact⟨b1,b2,b3,k,x,y,mk,n,⟨t _ _ c0,t _ _ c1,t _ _ c2,t _ _ c3,t _ _ c4,t _ _ c5,t _ _ c6,t _ _ c7⟩,hf⟩
structure J7(w:World)(a:Option Addr)(m:Nat)(hd:Nat->Int):Prop where
 blk:0<m->∃g o,a=some ⟨g,o,none⟩/\∀i,i<m->∃(sa:Option Addr) (sn sc:Nat) (ta:Option Addr) (tn tc:Nat) (b:Bool) (ov:Int),(w.cell? ⟨g,o+i*5,none⟩=some (.int .i64 (hd i))/\w.cell? ⟨g,o+i*5+1,none⟩=some (.slice sa sn sc)/\w.cell? ⟨g,o+i*5+2,none⟩=some (.slice ta tn tc)/\w.cell? ⟨g,o+i*5+3,none⟩=some (.bool b)/\w.cell? ⟨g,o+i*5+4,none⟩=some (.int .i64 ov))/\pA (hd i)/\pA ov/\dG w sa sn/\J6 w ta tn
 aj:m<=maxLen
theorem J7.below{w:World}{hd:Nat->Int}(h:J7 w a m hd)(hb:Below w.heap.size w w'):J7 w' a m hd:=by
 refine⟨λh0=>?_,h.aj⟩;obtain⟨g,o,e,hc⟩:=h.blk h0;refine⟨g,o,e,λi hi=>?_⟩;obtain⟨sa,sn,sc,ta,tn,tc,b,ov,⟨c0,c1,c2,c3,c4⟩,f1,f2,f3,f4⟩:=hc i hi;have t:=λj v (h:w.cell? ⟨g,j,none⟩=some v)=>(hb.cell (p:=⟨g,j,none⟩) (yJ h)).trans h;exact⟨sa,sn,sc,ta,tn,tc,b,ov,⟨t _ _ c0,t _ _ c1,t _ _ c2,t _ _ c3,t _ _ c4⟩,f1,f2,f3.below hb,f4.below hb⟩
structure xJ where
 minus:Bool
 times:Bool
 n:Int
 num:Int
 head:Int
structure yH where
 or:Bool
 not:Bool
 pair:Bool
 kind:Int
 x:Int
 y:Int
 mark:Int
 n:Int
def rM(p:xJ):List Value:=[.bool p.minus,.bool p.times,.int .i64 p.n,.int .i64 p.num,.int .i64 p.head]
def nV(t:yH):List Value:=[.bool t.or,.bool t.not,.bool t.pair,.int .i64 t.kind,.int .i64 t.x,.int .i64 t.y,.int .i64 t.mark,.int .i64 t.n]
def fO(low:List Nat):List Value:=low.map λd:Nat=>.int .i64 (d:Int)
def mJ(low:List Nat)(p:xJ):Prop :=
 (p.times=false/\(0<=p.n/\p.n<=9999)/\p.num = -1/\p.head = -1)\/(p.times=false/\(0<=p.num/\p.num<3)/\p.head = -1) \/
 (p.times=true/\(0<=p.n/\p.n<=9)/\(0<=p.num/\p.num<3)/\p.head = -1)\/((0<=p.n/\p.n<=9)/\p.num = -1/\∃d,d∈low/\p.head=(d:Nat))
def vO(low:List Nat)(t:yH):Prop :=
 t.kind=0\/(t.kind=1/\3<=t.x/\t.x<5)\/(t.kind=2/\∃d,d∈low/\t.x=(d:Nat)) \/
 ((t.kind=3\/t.kind=4)/\(0<=t.x/\t.x<3)/\(0<=t.y/\t.y<3)/\(0<=t.mark/\t.mark<6)/\(0<=t.n/\t.n<=9999))
def tP(low:List Nat)(ps:List xJ):Prop:=0<ps.length/\ps.length<=4/\∀p∈ps,mJ low p
def pG(low:List Nat)(ts:List yH):Prop:=0<ts.length/\ts.length<=6/\∀t∈ts,vO low t
def Ec(p:xJ):Prop:=p.times=true\/p.n=1\/(p.num = -1/\p.head = -1)
def lN(ps:List xJ):Prop:=(∀p∈ps,Ec p)/\∀p r,ps=p::r->p.minus=false
theorem XL{α:Type}{P:α->Prop}{l:List α}{x:α}(h:∀y∈l,P y)(hx:P x):∀y∈l++[x],P y:=λy hy=>by
 rcases pj.1 hy with h1|h1
 ·exact h y h1
 ·rw[pr.1 h1];exact hx
theorem lN.nil:lN []:=⟨λp hp=>(by cases hp),λp r h=>(by cases h)⟩
theorem lN.snoc{ps:List xJ}(h:lN ps){q:xJ}(h1:Ec q)(h2:ps.length=0->q.minus=false):lN (ps++[q]):=by
 refine⟨XL h.1 h1,λp r e=>?_⟩
 cases ps with
 | nil=>rw[lu]at e;injection e with e1 e2;rw[<-e1];exact h2 rfl
 | cons x l=>rw[li]at e;injection e with e1 e2;rw[<-e1];exact h.2 x l rfl
theorem MP:(prog.info? 89).map (λi=>(i.zero,i.size,i.bytes))=some (some (.agg #[.bool false,.bool false,.int .i64 0,.int .i64 0,.int .i64 0]),5,32):=by kernel_rfl
theorem MR:(prog.info? 87).map (λi=>(i.zero,i.size,i.bytes))=some (some (.agg #[.bool false,.bool false,.bool false,.int .i64 0,.int .i64 0,.int .i64 0,.int .i64 0,.int .i64 0]),8,48):=by kernel_rfl
theorem ME(sa la:Option Addr)(sn sc lc:Nat)(low:List Nat)(hS:dG w sa sn)(hL:kQ w la (fO low))(bK:low.length<=4) :
 Calls prog 42 #[.slice sa sn sc,.slice la low.length lc] w λe w'=>∃ps v,e=.returned v/\(tP low ps/\lN ps)/\w'.ownsRow w.heap.size 89 5 v ps.length (ps.flatMap rM)/\Below w.heap.size w w':=by
 obtain⟨i0,ai,hz0,hz1,ag⟩:=du MP;have aq:=hS.aj;unfold maxLen at aq;have HS:=zA (λw' (hb:Below w.heap.size w w')=>hS.below hb);have HL:=zA (λw' (hb:Below w.heap.size w w')=>hL.below hb);have ak:=zA V0;clear hS hL
 go_enter func42,ntmps42
 go_wp2_with fail
 go_loopw [5,6] (λov iv wr=>∃(i:Nat) (ps:List xJ),i<=sn/\i<=4/\iv=.int .i64 i/\ps.length=i/\Hid (Below w.heap.size w wr)/\Hid (wr.ownsRow w.heap.size 89 5 ov i (ps.flatMap rM))/\Hid (∀p∈ps,mJ low p)/\Hid (lN ps)) (λ_ iv _=>4-(intOf iv).toNat)
 case atStart=>exact⟨0,[],p8,p8,rfl,rfl,zA (tl _ _),zA (ly _ _ _ _),zA (λp hp=>by cases hp),zA lN.nil⟩
 case round =>
  obtain⟨i,ps,hi,a7,rfl,aQ,HB,HO,HP,aR⟩:=hrel;obtain⟨oa,oc,rfl⟩:=zO HO.out;by_cases aT:i<sn/\i<4
  ·have c1:(i:Int)<(sn:Int):=by omega
   have c2:(i:Int)<4:=(by omega);obtain⟨g,o,z,rfl,cz,hz⟩:=(HS.out wr HB.out).at aT.1;have ah:=zA (ak.out wr z 1099511627776 hz (by decide) (by decide));go_wp2_with fail
   refine ah.out.mono ?_;rintro e w2 ⟨u,rfl,hu,hw⟩;obtain rfl:=hw.symm;clear ah ak;have HU:=zA hu;have bI:(u:Int)<=9223372036854775807:=by omega
   clear hu;have au:0<=(u:Int)/8:=by omega
   have hx1:(u:Int)/8<=9223372036854775807:=by omega
   go_upto_region 7 with fail
   obtain⟨x,hx⟩:∃x:Nat,(u:Int)/8=(x:Int):=⟨u/8,by omega⟩;have bB:Hid ((x:Int)<=137438953471):=by unfold Hid;have:=HU.out;omega
   rw[hx];have bG:=zA c1;have bF:=zA c2;have aI:=zA aQ;clear hx au hx1 c1 c2 aT aQ cz
   go_cut [9] from 10 to 88 (λv9 wx=>∃mi:Bool,v9=.pointer (some ⟨wr.heap.size,0,none⟩)/\Hid (wx=wr.alloc (.cells #[.bool mi,.bool false,.int .i64 1,.int .i64 (-1),.int .i64 (-1)] 89))/\Hid (i=0->mi=false))
   case first =>
    by_cases k0:i=0
    ·subst k0
     go_wp2_with fail
     go_meet
     exact⟨false,rfl,zA rfl,zA λ_=>rfl⟩
    ·have k1:0<i:=by omega
     have k2:(0:Int)<(i:Int):=(by omega);clear k0;have y0:0<=(u:Int)/4:=(by omega);have y1:(u:Int)/4<=9223372036854775807:=(by omega);have y2:0<=(u:Int)/4%2:=(by omega);have y3:(u:Int)/4%2<=9223372036854775807:=by omega
     go_wp2_with fail
     go_meet
     exact⟨_,rfl,zA rfl,zA λe=>x' e (by omega)⟩
   case rest =>
    obtain⟨mi,rfl,HW,aJ⟩:=hcut;have HX:Hid (wc.heap[wr.heap.size]? = some (.cells #[.bool mi,.bool false,.int .i64 1,.int .i64 (-1),.int .i64 (-1)] 89 (0,0))):=by unfold Hid;rw[HW.out];exact zF _ _
    have aA:Hid (Below wr.heap.size wr wc):=(by unfold Hid;rw[HW.out];exact fk (tg _) _);have aP:Hid (∀k,wc.frozen? ⟨wr.heap.size,k,none⟩=false):=λk=>by simp[World.frozen?,HX.out]
    clear HW
    go_upto_block 2 with fail
    go_cut [9] from 10 to 88 (λv9 wx=>∃p:xJ,v9=.pointer (some ⟨wr.heap.size,0,none⟩)/\Hid (wx.heap[wr.heap.size]? = some (.cells (rM p).toArray 89 (0,0)))/\Hid (mJ low p/\Ec p/\(i=0->p.minus=false))/\Hid (Below wr.heap.size wr wx))
    case first =>
     have f1:=aP.out 1;have f2:=aP.out 2;have f3:=aP.out 3;have f4:=aP.out 4;have c1:wc.cell? ⟨wr.heap.size,1,none⟩=some (.bool false):=zC HX.out 1;have c2:wc.cell? ⟨wr.heap.size,2,none⟩=some (.int .i64 1):=zC HX.out 2;have c3:wc.cell? ⟨wr.heap.size,3,none⟩=some (.int .i64 (-1)):=zC HX.out 3;have c4:wc.cell? ⟨wr.heap.size,4,none⟩=some (.int .i64 (-1)):=zC HX.out 4;have y0:0<=(u:Int)%4:=(by omega);have y1:(u:Int)%4<=9223372036854775807:=(by omega);have z0:0<=(x:Int)%3:=(by omega);have z1:(x:Int)%3<=9223372036854775807:=(by omega);have z2:0<=(x:Int)%10:=(by omega);have z3:(x:Int)%10<=9223372036854775807:=(by omega);have z4:0<=(x:Int)/10:=(by omega);have z5:(x:Int)/10<=9223372036854775807:=(by have:=bB.out;omega);have z6:0<=(x:Int)/10%3:=(by omega);have z7:(x:Int)/10%3<=9223372036854775807:=(by omega);have z8:0<=(x:Int)%10000:=(by omega);have z9:(x:Int)%10000<=9223372036854775807:=(by omega);have av:(u:Int)%4=0\/(u:Int)%4=1\/(u:Int)%4=2\/(u:Int)%4=3:=(by omega);have q1:0<=(x:Int)%10000/\(x:Int)%10000<=9999:=(by omega);have q2:0<=(x:Int)%3/\(x:Int)%3<3:=(by omega);have q3:0<=(x:Int)%10/\(x:Int)%10<=9:=(by omega);have q4:0<=(x:Int)/10%3/\(x:Int)/10%3<3:=(by omega);have Q1:=zA q1;have Q2:=zA q2;have Q3:=zA q3;have Q4:=zA q4;clear q1 q2 q3 q4;rcases av with hm|hm|hm|hm
     ·go_wp2_with fail
      go_meet
      exact⟨⟨mi,false,(x:Int)%10000,-1,-1⟩,rfl,zA ((p9 _ _ _ _ _ _ HX.out).trans rfl),zA ⟨.inl ⟨rfl,Q1.out,rfl,rfl⟩,.inr (.inr ⟨rfl,rfl⟩),aJ.out⟩,zA (aA.out.setCell (tg _) _)⟩
     ·go_wp2_with fail
      go_meet
      exact⟨⟨mi,false,1,(x:Int)%3,-1⟩,rfl,zA ((p9 _ _ _ _ _ _ HX.out).trans rfl),zA ⟨.inr (.inl ⟨rfl,Q2.out,rfl⟩),.inr (.inl rfl),aJ.out⟩,zA (aA.out.setCell (tg _) _)⟩
     ·go_wp2_with fail
      go_meet
      exact⟨⟨mi,true,(x:Int)%10,(x:Int)/10%3,-1⟩,rfl,zA ((p9 _ _ _ _ _ _ (p9 _ _ _ _ _ _ (p9 _ _ _ _ _ _ HX.out))).trans rfl),zA ⟨.inr (.inr (.inl ⟨rfl,Q3.out,Q4.out,rfl⟩)),.inl rfl,aJ.out⟩,zA (((aA.out.setCell (tg _) _).setCell (tg _) _).setCell (tg _) _)⟩
     ·by_cases aW:low=[]
      ·subst aW
       go_wp2_with fail
       go_meet
       exact⟨⟨mi,false,(x:Int)%10000,-1,-1⟩,rfl,zA ((p9 _ _ _ _ _ _ HX.out).trans rfl),zA ⟨.inl ⟨rfl,Q1.out,rfl,rfl⟩,.inr (.inr ⟨rfl,rfl⟩),aJ.out⟩,zA (aA.out.setCell (tg _) _)⟩
      ·have bJ:0<low.length:=by cases low with|nil=>exact x' rfl aW|cons _ _=>simp
       have aV:(0:Int)<(low.length:Int):=(by omega);have n0:((low.length:Int)==0)=false:=(by rw[lj];omega);obtain⟨d,hd⟩:∃d:Nat,(x:Int)/10%(low.length:Int)=(d:Int):=⟨((x:Int)/10%(low.length:Int)).toNat,by have:=Int.emod_nonneg ((x:Int)/10) (show (low.length:Int)≠0 by omega);omega⟩;have aY:d<low.length:=(by have:=Int.emod_lt_of_pos ((x:Int)/10) aV;omega);have a8:(d:Int)<(low.length:Int):=(by omega);obtain⟨gl,rfl,cl⟩:=(HL.out wc (HB.out.trans (aA.out.mono HB.out.size))).at (show (fO low)[d]? = some (.int .i64 ((low.getD d 0:Nat):Int)) by simp[fO,List.getD,aY]);have aO:low.getD d 0∈low:=by simp[List.getD,aY]
       have bH:wr.heap.size≠gl:=by
        obtain⟨g',e',bA⟩:=(HL.out w (tl _ _)).at (show (fO low)[d]? = some (.int .i64 ((low.getD d 0:Nat):Int)) by simp[fO,List.getD,aY]);obtain rfl:gl=g':=by simpa using e'
        have:=yJ bA;have:=HB.out.size;omega
       clear aW;generalize low.getD d 0=dd at *;have Q0:Hid (0<=(1:Int)/\(1:Int)<=9):=⟨by decide,by decide⟩;by_cases k0:(x:Int)%10=0
       ·go_wp2_with fail
        go_meet
        exact⟨⟨mi,false,1,-1,dd⟩,rfl,zA ((p9 _ _ _ _ _ _ (p9 _ _ _ _ _ _ HX.out)).trans rfl),zA ⟨.inr (.inr (.inr ⟨Q0.out,rfl,dd,aO,rfl⟩)),.inr (.inl rfl),aJ.out⟩,zA ((aA.out.setCell (tg _) _).setCell (tg _) _)⟩
       ·have k1:0<(x:Int)%10:=by omega
        clear k0;go_wp2_with fail
        go_meet
        exact⟨⟨mi,true,(x:Int)%10,-1,dd⟩,rfl,zA ((p9 _ _ _ _ _ _ (p9 _ _ _ _ _ _ (p9 _ _ _ _ _ _ HX.out))).trans rfl),zA ⟨.inr (.inr (.inr ⟨Q3.out,rfl,dd,aO,rfl⟩)),.inl rfl,aJ.out⟩,zA (((aA.out.setCell (tg _) _).setCell (tg _) _).setCell (tg _) _)⟩
    case rest =>
     obtain⟨p,rfl,aK,aS,ae⟩:=hcut;obtain⟨aB,ti,nn,nu,hd⟩:=p;have c0:wc.cell? ⟨wr.heap.size,0,none⟩=some (.bool aB):=zC aK.out 0;have c1:wc.cell? ⟨wr.heap.size,1,none⟩=some (.bool ti):=zC aK.out 1;have c2:wc.cell? ⟨wr.heap.size,2,none⟩=some (.int .i64 nn):=zC aK.out 2;have c3:wc.cell? ⟨wr.heap.size,3,none⟩=some (.int .i64 nu):=zC aK.out 3;have c4:wc.cell? ⟨wr.heap.size,4,none⟩=some (.int .i64 hd):=zC aK.out 4;have ao:=zA (kV HO.out ae.out);have af:Hid (Below w.heap.size w wc):=HB.out.trans (ae.out.mono HB.out.size);have ar:w.heap.size<=wc.heap.size:=af.out.size;have bE:Hid (∀p∈ps++[(⟨aB,ti,nn,nu,hd⟩:xJ)],mJ low p):=XL HP.out aS.out.1;have bC:Hid (lN (ps++[(⟨aB,ti,nn,nu,hd⟩:xJ)])):=aR.out.snoc aS.out.2.1 λe=>aS.out.2.2 (by rw[<-aI.out,e]);clear aK HX aA aP ae HO HP aR aS aJ
     go_wp2_with (at_builtin;refine wpList_append_own _ rfl _ _ 82 rfl w.heap.size 89 i0 _ 5 32 underlying82 ai hz0 hz1 ag rfl (by decide) _ _ _ rfl (ao.out.alloc _) ⟨wc.heap.size,0,none⟩ 1 1 [.bool aB,.bool ti,.int .i64 nn,.int .i64 nu,.int .i64 hd] rfl rfl ?aH ?aG ?aF ?aD ?aC ?_)
     try (case aH=>exact zM _ _ _ _ rfl)
     try (case aG=>first|exact⟨rfl,rfl,rfl,rfl,rfl⟩|(intro u hu;simp at hu;rcases hu with rfl|rfl|rfl|rfl|rfl <;> rfl))
     try (case aF=>unfold maxLen;omega)
     try (case aD=>omega)
     try (case aC=>first|omega|(simp;omega))
     intro v6 w6 aM aN _;have aa:Hid (Below w.heap.size w w6):=(af.out.alloc ar _).grown aN (by simp;omega) (zS ao.out);have aZ:Hid (w6.ownsRow w.heap.size 89 5 v6 (i+1) ((ps++[(⟨aB,ti,nn,nu,hd⟩:xJ)]).flatMap rM)):=by unfold Hid;rw[lk];exact aM
     have ay:(ps++[(⟨aB,ti,nn,nu,hd⟩:xJ)]).length=i+1:=(by simp[aI.out]);clear aM aN;have aX:i+1<=4:=(by have:=bF.out;omega);have a6:i+1<=sn:=by have:=bG.out;omega
     go_wp2_with fail
     go_roundw
     case rel=>exact⟨i+1,ps++[⟨aB,ti,nn,nu,hd⟩],a6,aX,by go_num,ay,aa,aZ,bE,bC⟩
     case measure=>simp[intOf];omega
  ·have aI:=zA aQ
   have aL:¬i<sn\/(i<sn/\i=4):=(by omega);clear aT aQ;by_cases h0:i=0
   ·subst h0
    have aw:sn=0:=(by omega);subst aw;clear aL HP aR
    go_wp2_with (at_builtin;refine wpList_append_own _ rfl _ _ 82 rfl w.heap.size 89 i0 _ 5 32 underlying82 ai hz0 hz1 ag rfl (by decide) _ _ _ rfl (HO.out.alloc _) ⟨wr.heap.size,0,none⟩ 1 1 [.bool false,.bool false,.int .i64 0,.int .i64 (-1),.int .i64 (-1)] rfl rfl ?aH ?aG ?aF ?aD ?aC ?_)
    try (case aH=>exact zM _ _ _ _ rfl)
    try (case aG=>intro u hu;simp at hu;rcases hu with rfl|rfl|rfl <;> rfl)
    try (case aF=>unfold maxLen;omega)
    try (case aD=>omega)
    try (case aC=>have:=HB.out.size;simp;omega)
    intro v6 w6 aM aN _;have aa:Hid (Below w.heap.size w w6):=(HB.out.alloc HB.out.size _).grown aN (by have:=HB.out.size;simp;omega) (zS HO.out);have aU:ps=[]:=l5 aI.out;subst aU;have aZ:=zA aM;have bD:Hid (tP low [⟨false,false,0,-1,-1⟩]/\lN [⟨false,false,0,-1,-1⟩]):=⟨⟨by simp,by simp,λp hp=>by rw[pr.1 hp];exact .inl ⟨rfl,⟨by decide,by decide⟩,rfl,rfl⟩⟩,lN.nil.snoc (.inr (.inr ⟨rfl,rfl⟩)) λ_=>rfl⟩;clear aM aN;go_wp2_with fail
    go_ret
    exact⟨[⟨false,false,0,-1,-1⟩],_,rfl,bD.out,aZ.out,aa.out⟩
   ·have HQ:Hid (∃ps' v,Ending.returned (.slice oa i oc)=.returned v/\(tP low ps'/\lN ps')/\wr.ownsRow w.heap.size 89 5 v ps'.length (ps'.flatMap rM)/\Below w.heap.size w wr):=⟨ps,_,rfl,⟨⟨by rw[aI.out];omega,by rw[aI.out];exact a7,HP.out⟩,aR.out⟩,by rw[aI.out];exact HO.out,HB.out⟩
    have k0:((i:Int)==0)=false:=(by rw[lj];omega);clear h0;rcases aL with hc|⟨hc,h4⟩
    ·have c1:¬(i:Int)<(sn:Int):=by omega
     go_wp2_with fail
     go_ret
     exact HQ.out
    ·subst h4
     have c1:((4:Nat):Int)<(sn:Int):=(by omega);have c2:(4:Int)<(sn:Int):=by omega
     go_wp2_with fail
     go_ret
     exact HQ.out
end Go.Proofs.YtnbpdffdnphbeabGreatDoor
