import Derived.Test.YtnbpdffdnphbeabGreatDoorPFv
open Go.Proofs.Tryz
set_option maxHeartbeats 2000000
set_option maxRecDepth 100000
namespace Go.Proofs.YtnbpdffdnphbeabGreatDoor
open Go.RowKit
variable{v:FV}{g:Nat}{w:World}
structure wY(w:World)(g:Nat)(v:FV):Prop where
 blk:∃cs:Array Value,w.heap[g]? = some (.cells cs 110 (0,0))/\cs.size=13/\(∀i,i<5->cs[i]? = some (.int .i64 (v.ar i)))/\(∀i,i<4->cs[5+i]? = some (.bool (v.has i)))/\(∀i,i<4->cs[9+i]? = some (.int .i64 (v.val i)))
theorem wY.below{w':World}(h:wY w g v)(hb:Below w.heap.size w w'):wY w' g v:=by
 obtain⟨cs,h1,h2⟩:=h.blk;exact⟨cs,(hb.block g (zP h1)).trans h1,h2⟩
theorem wY.lt(h:wY w g v):g<w.heap.size:=by
 obtain⟨cs,h1,h2⟩:=h.blk;exact zP h1
theorem wY.free(h:wY w g v)(k:Nat):w.frozen? ⟨g,k,none⟩=false:=by
 obtain⟨cs,h1,h2⟩:=h.blk;simp[World.frozen?,h1]
theorem wY.cells(h:wY w g v):(∀i,i<5->w.cell? ⟨g,i,none⟩=some (.int .i64 (v.ar i)))/\(∀i,i<4->w.cell? ⟨g,5+i,none⟩=some (.bool (v.has i)))/\(∀i,i<4->w.cell? ⟨g,9+i,none⟩=some (.int .i64 (v.val i))):=by
 obtain⟨cs,h1,h2,h3,h4,h5⟩:=h.blk;exact⟨λi hi=>(zC h1 i).trans (h3 i hi),λi hi=>(zC h1 _).trans (h4 i hi),λi hi=>(zC h1 _).trans (h5 i hi)⟩
theorem wY.hY(h:wY w g v)(k:Nat)(hk:k<5)(z:Int):wY (w.setCell ⟨g,k,none⟩ (.int .i64 z)) g ⟨ZY v.ar k z,v.has,v.val⟩:=by
 obtain⟨cs,h1,h2,h3,h4,h5⟩:=h.blk;refine⟨_,p9 _ _ _ _ _ _ h1,by simp[h2],λi hi=>?_,λi hi=>?_,λi hi=>?_⟩
 ·rw[vX];show _=some (Value.int .i64 (ZY v.ar k z i));unfold ZY;split
  ·rfl
  ·exact h3 i hi
 ·rw[vX,i6];exact h4 i hi
 ·rw[vX,i6];exact h5 i hi
theorem wY.gu(h:wY w g v)(k:Nat)(hk:k<4)(z:Bool):wY (w.setCell ⟨g,5+k,none⟩ (.bool z)) g ⟨v.ar,ZY v.has k z,v.val⟩:=by
 obtain⟨cs,h1,h2,h3,h4,h5⟩:=h.blk;refine⟨_,p9 _ _ _ _ _ _ h1,by simp[h2],λi hi=>?_,λi hi=>?_,λi hi=>?_⟩
 ·rw[vX,i6];exact h3 i hi
 ·rw[vX];show _=some (Value.bool (ZY v.has k z i));unfold ZY
  by_cases e:i=k
  ·rw[u',tr e]
  ·rw[i6,tj e];exact h4 i hi
 ·rw[vX,i6];exact h5 i hi
theorem wY.drew(h:wY w g v):wY w.drew g v:=h.below (md (tl _ _))
theorem Ci(w:World):wY (w.alloc (.cells #[.int .i64 0,.int .i64 0,.int .i64 0,.int .i64 0,.int .i64 0,.bool false,.bool false,.bool false,.bool false,.int .i64 0,.int .i64 0,.int .i64 0,.int .i64 0] 110)) w.heap.size ⟨λ_=>0,λ_=>false,λ_=>0⟩:=by
 refine⟨_,zF _ _,rfl,λi hi=>?_,λi hi=>?_,λi hi=>?_⟩
 ·have:i=0\/i=1\/i=2\/i=3\/i=4:=by omega
  rcases this with rfl|rfl|rfl|rfl|rfl <;> rfl
 ·have:i=0\/i=1\/i=2\/i=3:=by omega
  rcases this with rfl|rfl|rfl|rfl <;> rfl
 ·have:i=0\/i=1\/i=2\/i=3:=by omega
  rcases this with rfl|rfl|rfl|rfl <;> rfl
theorem bF.ep{M:yO}(h:bF w g M):∃rv hv,kH w g M.lo M.hi rv M.over hv:=let ⟨_,_,_,_,_,_,hm,_⟩:=h.mem;⟨_,_,hm⟩
theorem MD(w:World)(x y:Int)(k:Nat)(hk:k<6):Calls prog 69 #[.int .i64 x,.int .i64 (k:Int),.int .i64 y] w λe w'=>e=.returned (.bool (Yx x k y))/\w'=w:=by
 have h:k=0\/k=1\/k=2\/k=3\/k=4\/k=5:=by omega
 rcases h with rfl|rfl|rfl|rfl|rfl|rfl
 all_goals
  go_enter func69,ntmps69
  go_wp2_with fail
  go_ret
  refine⟨zG ?_,rfl⟩
  first
   | rfl
   | (unfold Yx;simp;done)
   | (unfold Yx;by_cases e:x=y <;> simp[e])
theorem RB(w:World)(g:Nat)(v:FV)(t:yH)(low:List Nat)(hV:wY w g v)(ht:vO low t)(aN:∀d∈low,d<4) :
 Calls prog 54 #[.agg #[.bool t.or,.bool t.not,.bool t.pair,.int .i64 t.kind,.int .i64 t.x,.int .i64 t.y,.int .i64 t.mark,.int .i64 t.n],.pointer (some ⟨g,0,none⟩)] w λe w'=>e=.returned (.bool (nE v t))/\Below w.heap.size w w':=by
 have HB:Hid (∀o,Below w.heap.size w (w.alloc o)):=λo=>fk (tg _) o;have aC:Hid (∀o,wY (w.alloc o) g v):=λo=>hV.below (HB.out o);have HA:Hid (nE v t=(Ko v t != t.not)):=rfl;have HC:Hid (Ko v t=if t.kind=0 then true else if t.kind=1 then decide (v.ar t.x.toNat=1) else if t.kind=2 then v.has t.x.toNat else if t.kind=3 then Yx (v.ar t.x.toNat) t.mark.toNat t.n else Yx (v.ar t.x.toNat) t.mark.toNat (v.ar t.y.toNat)):=rfl;have aK:=zA MD;unfold vO at ht;have aJ:=zA ht;have aV:=zA aN;clear ht hV aN;generalize nE v t=TW at *;generalize bE:Ko v t=CW at *;clear bE;obtain⟨o1,o2,o3,k,x,y,mk,n⟩:=t;simp only at HA HC aJ ⊢;rcases aJ.out with h|⟨h,x1,x2⟩|⟨h,d,hd,hx⟩|⟨h,⟨x1,x2⟩,⟨y1,y2⟩,⟨m1,m2⟩,n1,n2⟩
 ·subst h
  have aI:Hid (CW=true):=HC.out;clear HC aJ aC aK
  go_enter func54,ntmps54
  go_wp2_with fail
  go_ret
  exact⟨zG (by rw[HA.out,aI.out];cases o2 <;> rfl),HB.out _⟩
 ·subst h
  obtain⟨a,rfl⟩:∃a:Nat,x=(a:Int):=⟨x.toNat,by omega⟩;have aI:Hid (CW=decide (v.ar a=1)):=HC.out;have ha:a<5:=by omega
  have q:=(aC.out (.cells #[.bool o1,.bool o2,.bool o3,.int .i64 1,.int .i64 (a:Int),.int .i64 y,.int .i64 mk,.int .i64 n] 87)).cells.1 a ha;have a5:(a:Int)<5:=by omega
  clear HC aJ aC aK;generalize v.ar a=z at *
  go_enter func54,ntmps54
  go_upto_region 4 with fail
  go_region
  all_goals
   go_wp2_with fail
   go_ret
   exact⟨zG (by rw[HA.out,aI.out];first|rfl|(by_cases e:z=1 <;> simp[e])),by first|exact HB.out _|exact md (HB.out _)⟩
 ·subst h
  obtain rfl:x=(d:Int):=hx;have aI:Hid (CW=v.has d):=HC.out;have ae:=aV.out d hd;have q:=(aC.out (.cells #[.bool o1,.bool o2,.bool o3,.int .i64 2,.int .i64 (d:Int),.int .i64 y,.int .i64 mk,.int .i64 n] 87)).cells.2.1 d ae;have a5:(d:Int)<4:=by omega
  clear HC aJ aC aK;generalize v.has d=z at *
  go_enter func54,ntmps54
  go_upto_region 6 with fail
  go_region
  all_goals
   go_wp2_with fail
   go_ret
   exact⟨zG (by rw[HA.out,aI.out];first|rfl|(cases z <;> cases o2 <;> rfl)),by first|exact HB.out _|exact md (HB.out _)⟩
 ·obtain⟨a,rfl⟩:∃a:Nat,x=(a:Int):=⟨x.toNat,by omega⟩
  obtain⟨b,rfl⟩:∃b:Nat,y=(b:Int):=⟨y.toNat,by omega⟩;obtain⟨m,rfl⟩:∃m:Nat,mk=(m:Int):=⟨mk.toNat,by omega⟩;have ha:a<5:=by omega
  have hb:b<5:=by omega
  have a5:(a:Int)<5:=by omega
  have b5:(b:Int)<5:=by omega
  rcases h with h|h
  ·subst h
   have aI:Hid (CW=Yx (v.ar a) m n):=HC.out;have q:=(aC.out (.cells #[.bool o1,.bool o2,.bool o3,.int .i64 3,.int .i64 (a:Int),.int .i64 (b:Int),.int .i64 (m:Int),.int .i64 n] 87)).cells.1 a ha;have ai:=zA (λw'=>aK.out w' (v.ar a) n m (by omega));clear HC aJ aC aK;generalize Yx (v.ar a) m n=z at *;generalize v.ar a=va at *
   go_enter func54,ntmps54
   go_upto_region 8 with fail
   go_region_held3 (λw'=>w'.cell? ⟨g,a,none⟩=some (.int .i64 va)/\w'.cell? ⟨w.heap.size,4,none⟩=some (.int .i64 (a:Int))/\w'.cell? ⟨w.heap.size,6,none⟩=some (.int .i64 (m:Int))/\w'.cell? ⟨w.heap.size,7,none⟩=some (.int .i64 n)) (go_keep) (
    (go_at_call 69;refine(ai.out _).mono ?_;rintro e w4 ⟨rfl,hw⟩;obtain rfl:=hw.symm))
   all_goals
    go_wp2_with fail
    go_ret
    exact⟨zG (by rw[HA.out,aI.out];first|rfl|(cases z <;> cases o2 <;> rfl)),by first|exact HB.out _|exact md (HB.out _)⟩
  ·subst h
   have aI:Hid (CW=Yx (v.ar a) m (v.ar b)):=HC.out;have q:=(aC.out (.cells #[.bool o1,.bool o2,.bool o3,.int .i64 4,.int .i64 (a:Int),.int .i64 (b:Int),.int .i64 (m:Int),.int .i64 n] 87)).cells.1 a ha;have q2:=(aC.out (.cells #[.bool o1,.bool o2,.bool o3,.int .i64 4,.int .i64 (a:Int),.int .i64 (b:Int),.int .i64 (m:Int),.int .i64 n] 87)).cells.1 b hb;have ai:=zA (λw'=>aK.out w' (v.ar a) (v.ar b) m (by omega));clear HC aJ aC aK;generalize Yx (v.ar a) m (v.ar b)=z at *;generalize v.ar a=va at *;generalize v.ar b=vb at *
   go_enter func54,ntmps54
   go_upto_region 10 with fail
   go_region_held3 (λw'=>w'.cell? ⟨g,a,none⟩=some (.int .i64 va)/\w'.cell? ⟨g,b,none⟩=some (.int .i64 vb)/\w'.cell? ⟨w.heap.size,4,none⟩=some (.int .i64 (a:Int))/\w'.cell? ⟨w.heap.size,5,none⟩=some (.int .i64 (b:Int))/\w'.cell? ⟨w.heap.size,6,none⟩=some (.int .i64 (m:Int))) (go_keep) (
    (go_at_call 69;refine(ai.out _).mono ?_;rintro e w4 ⟨rfl,hw⟩;obtain rfl:=hw.symm))
   all_goals
    go_wp2_with fail
    go_ret
    exact⟨zG (by rw[HA.out,aI.out];first|rfl|(cases z <;> cases o2 <;> rfl)),by first|exact HB.out _|exact md (HB.out _)⟩
theorem vg{ps:List xJ}{i:Nat}(hi:i<ps.length)(h:sE v (ps.take i)=true):sE v (ps.take (i+1))=(decide ((ps.getD i eX).head<0) || v.has (ps.getD i eX).head.toNat):=by
 have e:ps.take (i+1)=ps.take i++[ps.getD i eX]:=by rw[dc];simp[List.getD,hi]
 rw[e];unfold sE at h ⊢;rw[List.all_append,h];simp
theorem SD{ps:List xJ}{i:Nat}(hi:i<ps.length)(h:(decide ((ps.getD i eX).head<0) || v.has (ps.getD i eX).head.toNat)=false):sE v ps=false:=by
 cases hn:sE v ps
 ·rfl
 ·have:=List.all_eq_true.1 hn (ps.getD i eX) (pS eX hi)
  rw[this]at h;cases h
def mS(v:FV)(ts:List yH):Nat->Bool × Bool
 | 0=>(false,true)
 | i+1=>if i=0 then (false,nE v (ts.getD 0 dA)) else if (ts.getD i dA).or=true then ((mS v ts i).1 || (mS v ts i).2,nE v (ts.getD i dA)) else ((mS v ts i).1,(mS v ts i).2&&nE v (ts.getD i dA))
theorem Oj(v:FV)(ts:List yH):∀(l:List yH) (i:Nat),0<i->i<=ts.length->ts.drop i=l->sf v (mS v ts i).1 (mS v ts i).2 l=((mS v ts ts.length).1 || (mS v ts ts.length).2):=by
 intro l
 induction l with
 | nil =>
   intro i h0 hle hd
   have bK:ts.length<=i:=by
    rcases mc i ts.length with h|h
    ·rw[ph h]at hd;cases hd
    ·exact h
   obtain rfl:i=ts.length:=by omega
   rfl
 | cons t r ih =>
   intro i h0 hle hd
   have aA:i<ts.length:=by
    rcases mc i ts.length with h|h
    ·exact h
    ·rw[pf h]at hd;cases hd
   rw[ph aA]at hd;injection hd with h1 h2
   have hg:ts.getD i dA=t:=(by simp[List.getD,aA,h1]);have:=ih (i+1) (by omega) (by omega) h2;have e:mS v ts (i+1)=if t.or=true then ((mS v ts i).1 || (mS v ts i).2,nE v t) else ((mS v ts i).1,(mS v ts i).2&&nE v t):=by rw[mS,tj (show ¬i=0 by omega),hg]
   rw[<-this,e,sf];by_cases ho:t.or=true
   ·rw[tr ho,tr ho]
   ·rw[tj ho,tj ho]
theorem RT(v:FV)(wh:Bool){ts:List yH}(h:0<ts.length):A3 v wh ts=(((mS v ts ts.length).1 || (mS v ts ts.length).2) != wh):=by
 cases ts with
 | nil=>simp at h
 | cons t l =>
   have:=Oj v (t::l) l 1 (by decide) (by simp) rfl;rw[<-this];rfl
theorem DY(w:World)(g:Nat)(v:FV)(r:vR)(aa:List Nat)(pa qa:Option Addr)(pc qc:Nat)(hV:wY w g v)(hR:oX aa r)(hP:xX w 89 pa (r.parts.flatMap rM))(hT:xX w 87 qa (r.tests.flatMap nV)) :
 Calls prog 34 #[.agg #[.int .i64 (r.head:Int),.bool r.whole,.slice pa r.parts.length pc,.slice qa r.tests.length qc],.pointer (some ⟨g,0,none⟩)] w λe w'=>e=.returned (.bool (ZN v r))/\Below w.heap.size w w':=by
 have aN:∀d∈xP aa r.head,d<4:=λd hd=>by have:=Z5 hd;have:=hR.head;omega
 have aV:=zA aN;have HA:Hid (ZN v r=(sE v r.parts&&A3 v r.whole r.tests)):=rfl;have HG:=zA (RT v r.whole hR.tests.1);have aw:=zA hR.parts.2.2;have au:=zA hR.tests.2.2;have bJ:=hR.parts.2.1;have bI:=hR.tests.2.1;have aR:Hid (Below w.heap.size w (w.alloc (.cells #[.int .i64 (r.head:Int),.bool r.whole,.slice pa r.parts.length pc,.slice qa r.tests.length qc] 85))):=fk (tg _) _;have af:Hid ((w.alloc (.cells #[.int .i64 (r.head:Int),.bool r.whole,.slice pa r.parts.length pc,.slice qa r.tests.length qc] 85)).heap[w.heap.size]? = some (.cells #[.int .i64 (r.head:Int),.bool r.whole,.slice pa r.parts.length pc,.slice qa r.tests.length qc] 85 (0,0))):=zF _ _;have ao:=zA (λw' (hb:Below w.heap.size w w')=>hV.below hb);have bH:=zA (λw' (hb:Below w.heap.size w w')=>hP.below hb);have bG:=zA (λw' (hb:Below w.heap.size w w')=>hT.below hb);have az:=zA (λi hi=>vg (v:=v) (ps:=r.parts) (i:=i) hi);have a6:=zA (λi hi=>SD (v:=v) (ps:=r.parts) (i:=i) hi);have a7:Hid (r.parts.take r.parts.length=r.parts):=co;clear aN hR hV hP hT;generalize ZN v r=bA at *;generalize bC:r.whole=wh at *;generalize bD:r.parts=ps at *;generalize bB:r.tests=ts at *;generalize (r.head:Int)=aZ at *;generalize xP aa r.head=low at *;clear bC bD bB
 go_enter func34,ntmps34
 go_upto_region 1 with fail
 generalize w.alloc (.cells #[.int .i64 aZ,.bool wh,.slice pa ps.length pc,.slice qa ts.length qc] 85)=w0 at *;have aq:=zA (ao.out w0 aR.out);have ax:=zA (bH.out w0 aR.out);have b2:w0.cell? ⟨w.heap.size,2,none⟩=some (.slice pa ps.length pc):=zC af.out 2;go_wp2_with fail
 go_loop [5] (λiv=>∃(i:Nat),i<=ps.length/\iv=.int .i64 (i:Int)/\Hid (sE v (ps.take i)=true)) (λiv=>ps.length-(intOf iv).toNat)
 case atStart=>exact⟨0,p8,rfl,zA rfl⟩
 case round =>
  obtain⟨i,hi,rfl,HN⟩:=hrel;by_cases aA:i<ps.length
  ·have ii:(i:Int)<(ps.length:Int):=by omega
   have aM:=aw.out _ (pS eX aA);have aB:=az.out i aA HN.out;have aF:=a6.out i aA;obtain⟨gp,e0,q4⟩:=ax.out.ay.at ((zV rM 5 (λ_=>rfl) eX ps i 4 aA (by decide)).trans rfl);subst e0;generalize ps.getD i eX=p at *
   have aO:p.head = -1\/∃d,d∈low/\p.head=((d:Nat):Int):=by
    rcases aM with ⟨-,-,-,h⟩|⟨-,-,h⟩|⟨-,-,-,h⟩|⟨-,-,h⟩
    ·exact .inl h
    ·exact .inl h
    ·exact .inl h
    ·exact .inr h
   clear aM;rcases aO with h1|⟨d,hd,h1⟩
   ·rw[h1]at q4 aB aF
    have ah:Hid (sE v (ps.take (i+1))=true):=aB.trans rfl;clear aB aF HN;go_wp2_with fail
    go_round
    case rel=>exact⟨i+1,by omega,by go_num,ah⟩
    case measure=>simp[intOf];omega
   ·rw[h1]at q4 aB aF
    have ae:=aV.out d hd;have qh:=aq.out.cells.2.1 d ae;have d4:(d:Int)<4:=(by omega);have d0:(0:Int)<=(d:Int):=(by omega);rw[ty (show ¬(d:Int)<0 by omega),bt,fm]at aB aF;cases aS:v.has d
    ·rw[aS]at qh aB aF
     have HZ:Hid (bA=false):=(by unfold Hid;rw[HA.out,aF rfl];rfl);clear aB aF HN aS;go_wp2_with fail
     go_ret
     exact⟨zG HZ.out.symm,aR.out⟩
    ·rw[aS]at qh aB aF
     have ah:=zA aB;clear aB aF HN aS;go_wp2_with fail
     go_round
     case rel=>exact⟨i+1,by omega,by go_num,ah⟩
     case measure=>simp[intOf];omega
  ·obtain rfl:i=ps.length:=by omega
   have ii:¬(ps.length:Int)<(ps.length:Int):=by omega
   have HZ:Hid (bA=(((mS v ts ts.length).1 || (mS v ts ts.length).2) != wh)):=by
    have:=HN.out;rw[a7.out]at this;unfold Hid;rw[HA.out,this,HG.out];rfl
   clear HN HA HG az a6 aw ax a7;go_wp2_with fail
   go_loopw [7,8,9] (λsv rv iv wr=>∃(i:Nat),i<=ts.length/\iv=.int .i64 (i:Int)/\sv=.bool (mS v ts i).1/\rv=.bool (mS v ts i).2/\Hid (wr.heap[w.heap.size]? = some (.cells #[.int .i64 aZ,.bool wh,.slice pa ps.length pc,.slice qa ts.length qc] 85 (0,0)))/\Hid (Below w.heap.size w wr)) (λ_ _ iv _=>ts.length-(intOf iv).toNat)
   case atStart=>exact⟨0,p8,rfl,rfl,rfl,af,aR⟩
   case round =>
    clear af aR aq;obtain⟨i,hi,rfl,rfl,rfl,HX,HB⟩:=hrel;have b3:wr.cell? ⟨w.heap.size,3,none⟩=some (.slice qa ts.length qc):=zC HX.out 3;by_cases aA:i<ts.length
    ·have ii:(i:Int)<(ts.length:Int):=by omega
     have aM:=au.out _ (pS dA aA);have aP:Hid (mS v ts (i+1)=if i=0 then (false,nE v (ts.getD 0 dA)) else if (ts.getD i dA).or=true then ((mS v ts i).1 || (mS v ts i).2,nE v (ts.getD i dA)) else ((mS v ts i).1,(mS v ts i).2&&nE v (ts.getD i dA))):=rfl;have ag:=zA (bG.out wr HB.out);obtain⟨gt,e0,-⟩:=ag.out.ay.at ((zV nV 8 (λ_=>rfl) dA ts i 0 aA (by decide)).trans rfl);subst e0
     have aH:Hid (∀(k:Nat) (u:Value),k<8->(nV (ts.getD i dA))[k]? = some u->wr.cell? ⟨gt,i*8+k,none⟩=some u):=λk u hk hu=>by
      obtain⟨g',e',c'⟩:=ag.out.ay.at ((zV nV 8 (λ_=>rfl) dA ts i k aA hk).trans hu);obtain rfl:gt=g':=by simpa using e'
      exact c'
     have HH:=zA (RB wr g v (ts.getD i dA) low (ao.out wr HB.out) aM aV.out);have a8:Hid (i=0->ts.getD 0 dA=ts.getD i dA):=λh=>by rw[h]
     generalize ts.getD i dA=t at *;generalize ts.getD 0 dA=t0 at *;generalize hH:nE v t=x at *;have aY:Hid (i=0->nE v t0=x):=λh=>by rw[a8.out h,hH]
     generalize ak:(mS v ts i).1=s1 at *;generalize aj:(mS v ts i).2=s2 at *;have aX:=zA ak;have aW:=zA aj;have q0:=aH.out 0 _ (by decide) rfl;rw[lh]at q0;have q1:=aH.out 1 _ (by decide) rfl;have q2:=aH.out 2 _ (by decide) rfl;have q3:=aH.out 3 _ (by decide) rfl;have q4:=aH.out 4 _ (by decide) rfl;have q5:=aH.out 5 _ (by decide) rfl;have q6:=aH.out 6 _ (by decide) rfl;have q7:=aH.out 7 _ (by decide) rfl;clear aM hH ak aj ag au a8;go_wp2_with fail
     refine HH.out.mono ?_;rintro e w4 ⟨rfl,aU⟩;have aQ:Hid (Below w.heap.size w w4):=HB.out.trans (aU.mono HB.out.size);have aL:Hid (w4.heap[w.heap.size]? = some (.cells #[.int .i64 aZ,.bool wh,.slice pa ps.length pc,.slice (some ⟨gt,0,none⟩) ts.length qc] 85 (0,0))):=(aU.block _ (zP HX.out)).trans HX.out;have q0:w4.cell? ⟨gt,i*8,none⟩=some (.bool t.or):=(aU.cell (p:=⟨gt,i*8,none⟩) (yJ q0)).trans q0;have b3:w4.cell? ⟨w.heap.size,3,none⟩=some (.slice (some ⟨gt,0,none⟩) ts.length qc):=zC aL.out 3;clear aU HH q1 q2 q3 q4 q5 q6 q7 aH;by_cases k0:i=0
     ·subst k0
      have av:Hid (mS v ts 1=(false,x)):=aP.out.trans ((tr rfl).trans (by rw[aY.out rfl]));have e1:s1=false:=aX.out.symm;have e2:s2=true:=aW.out.symm;subst e1 e2;clear aP aY aX aW;go_wp2_with fail
      go_roundw
      case rel=>exact⟨1,by omega,by go_num,by rw[av.out],by rw[av.out],aL,aQ⟩
      case measure=>simp[intOf];omega
     ·have k1:(0:Int)<(i:Int):=by omega
      have aD:=aP.out;rw[tj k0]at aD;cases aT:t.or
      ·rw[aT]at q0 aD
       rw[i6]at aD;have aG:=zA aD;clear aD aP aY aX aW aT;cases s2
       ·go_wp2_with fail
        go_roundw
        case rel=>exact⟨i+1,by omega,by go_num,by rw[aG.out],by rw[aG.out];rfl,aL,aQ⟩
        case measure=>simp[intOf];omega
       ·go_wp2_with fail
        go_roundw
        case rel=>exact⟨i+1,by omega,by go_num,by rw[aG.out],by rw[aG.out];rfl,aL,aQ⟩
        case measure=>simp[intOf];omega
      ·rw[aT]at q0 aD
       rw[tr rfl]at aD;have aG:=zA aD;clear aD aP aY aX aW aT;cases s1
       ·go_wp2_with fail
        go_roundw
        case rel=>exact⟨i+1,by omega,by go_num,by rw[aG.out];rfl,by rw[aG.out],aL,aQ⟩
        case measure=>simp[intOf];omega
       ·go_wp2_with fail
        go_roundw
        case rel=>exact⟨i+1,by omega,by go_num,by rw[aG.out];rfl,by rw[aG.out],aL,aQ⟩
        case measure=>simp[intOf];omega
    ·obtain rfl:i=ts.length:=by omega
     have ii:¬(ts.length:Int)<(ts.length:Int):=(by omega);have b1:wr.cell? ⟨w.heap.size,1,none⟩=some (.bool wh):=zC HX.out 1;generalize (mS v ts ts.length).1=s1 at *;generalize (mS v ts ts.length).2=s2 at *;cases s1
     ·go_wp2_with fail
      go_ret
      exact⟨zG (by rw[HZ.out];first|rfl|(cases wh <;> cases s2 <;> rfl)),HB.out⟩
     ·go_wp2_with fail
      go_ret
      exact⟨zG (by rw[HZ.out];first|rfl|(cases wh <;> cases s2 <;> rfl)),HB.out⟩
end Go.Proofs.YtnbpdffdnphbeabGreatDoor
