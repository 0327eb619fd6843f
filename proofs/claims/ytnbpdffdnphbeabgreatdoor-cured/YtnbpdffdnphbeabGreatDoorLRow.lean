import Derived.Test.YtnbpdffdnphbeabGreatDoorFGuard
namespace Go.Proofs.YtnbpdffdnphbeabGreatDoor
open Go.RowKit
variable{L:List (List Bs)}{ws:List Bs}{v:Value}{w' w:World}
def Uk(w:World)(v:Value)(ws:List Bs):Prop:=∃a c,v=.slice a ws.length c/\xM w 9 a (vH ws)
def kY(w:World):List Value->List (List Bs)->Prop
 | [],[]=>True
 | v::vs,l::L=>Uk w v l/\kY w vs L
 | _,_=>False
theorem Uk.below(h:Uk w v ws)(hb:Below w.heap.size w w'):Uk w' v ws:=by
 obtain⟨a,c,e,p⟩:=h;exact⟨a,c,e,p.below hb⟩
theorem Uk.grown{B n:Nat}{ov:Value}{ys:List Value}(h:Uk w v ws)(zJU:w.ownsRow B 70 1 ov n ys)(hg:w.grownBy w' ov.ownBlock):Uk w' v ws:=by
 obtain⟨a,c,e,p⟩:=h;exact⟨a,c,e,p.grown zJU (by decide) hg⟩
theorem kY.keep(hk:∀v ws,Uk w v ws->Uk w' v ws):∀(vs:List Value) (L:List (List Bs)),kY w vs L->kY w' vs L
 | [],[],_=>trivial
 | v::vs,l::L,h=>⟨hk v l h.1,kY.keep hk vs L h.2⟩
 | [],_::_,h=>absurd h id
 | _::_,[],h=>absurd h id
theorem kY.below{vs:List Value}(h:kY w vs L)(hb:Below w.heap.size w w'):kY w' vs L:=kY.keep (fun _ _ h=>h.below hb) vs L h
theorem kY.grown{vs:List Value}{B n:Nat}{ov:Value}{ys:List Value}(h:kY w vs L)(zJU:w.ownsRow B 70 1 ov n ys)(hg:w.grownBy w' ov.ownBlock):kY w' vs L:=kY.keep (fun _ _ h=>h.grown zJU hg) vs L h
theorem kY.snoc{l:List Bs}(hv:Uk w v l):∀ {vs:List Value} {L:List (List Bs)},kY w vs L->kY w (vs++[v]) (L++[l])
 | [],[],_=>⟨hv,trivial⟩
 | _::_,_::_,h=>⟨h.1,kY.snoc hv h.2⟩
 | [],_::_,h=>absurd h id
 | _::_,[],h=>absurd h id
theorem kY.len:∀ {vs:List Value} {L:List (List Bs)},kY w vs L->vs.length=L.length
 | [],[],_=>rfl
 | _::_,_::_,h=>by rw[tz,tz,kY.len h.2]
 | [],_::_,h=>absurd h id
 | _::_,[],h=>absurd h id
def vA(vs:List Value)(i:Nat):Value:=vs.getD i (.slice none 0 0)
theorem kY.get:∀ {vs:List Value} {L:List (List Bs)},kY w vs L->∀i,i<L.length->vs[i]? = some (vA vs i)/\Uk w (vA vs i) (L.getD i [])
 | [],[],_,i,hi=>absurd hi (by simp)
 | _::_,_::_,h,0,_=>⟨rfl,h.1⟩
 | _::vs,_::L,h,i+1,hi=>kY.get (vs:=vs) (L:=L) h.2 i (by simpa using hi)
 | [],_::_,h,_,_=>absurd h id
 | _::_,[],h,_,_=>absurd h id
def Cj(w:World)(a:Option Addr)(L:List (List Bs)):Prop:=∃vs,xM w 70 a vs/\kY w vs L
theorem Cj.below{a:Option Addr}(h:Cj w a L)(hb:Below w.heap.size w w'):Cj w' a L:=by
 obtain⟨vs,h1,h2⟩:=h;exact⟨vs,h1.below hb,h2.below hb⟩
theorem Cj.line{a:Option Addr}(h:Cj w a L)(i:Nat)(hi:i<L.length):∃g la lc,a=some ⟨g,0,none⟩/\w.cell? ⟨g,i,none⟩=some (.slice la (L.getD i []).length lc)/\∀k,k<(L.getD i []).length->∃gl,la=some ⟨gl,0,none⟩/\w.cell? ⟨gl,k,none⟩=some (.string ⟨((L.getD i []).getD k []).toArray⟩):=by
 obtain⟨vs,h1,h2⟩:=h;obtain⟨e1,la,lc,e2,h3⟩:=h2.get i hi;obtain⟨g,e3,h4⟩:=h1.cel.at e1;rw[e2]at h4;exact⟨g,la,lc,e3,h4,fun k hk=>h3.cel.at (Y4 _ k hk)⟩
def GK(ws:List Bs):Nat->Bs
 | 0=>[]
 | k+1=>(if 0<k/\ws.getD k []≠[59] then GK ws k++[32] else GK ws k)++ws.getD k []
def zBP:List Bs->Bs
 | []=>[]
 | w::r=>(if w=[59] then w else 32::w)++zBP r
theorem GU(l:List Bs)(w:Bs):zBP (l++[w])=zBP l++(if w=[59] then w else 32::w):=by
 induction l with
 | nil=>simp[zBP]
 | cons x r ih=>rw[my,zBP,ih,zBP,pj]
theorem zIV(l:List Bs):GJ l=zBP l++[10]:=by
 induction l with
 | nil=>rfl
 | cons x r ih=>rw[GJ,zBP,ih,pj]
theorem qi(w:Bs)(r:List Bs):∀k,k<=r.length->GK (w::r) (k+1)=w++zBP (r.take k):=by
 intro k
 induction k with
 | zero=>intro _;simp[GK,zBP]
 | succ k ih =>
   intro hk;have e:(w::r).getD (k+1) []=r.getD k []:=rfl
   have et:r.take (k+1)=r.take k++[r.getD k []]:=by
    rw[cy];simp[List.getD,show k<r.length by omega]
   rw[GK,e,ih (by omega),et,GU];by_cases h:r.getD k []=[59]
   ·rw[tj (fun q=>q.2 h),tr h];simp
   ·rw[tr ⟨by omega,h⟩,tj h];simp
theorem zDZ(ws:List Bs):GK ws ws.length++[10]=dG ws:=by
 cases ws with
 | nil=>rfl
 | cons w r=>rw[tz,qi w r _ (tg _),cd,dG,zIV,pj]
theorem GV(L:List (List Bs))(i:Nat)(hi:i<L.length):Yp (L.take (i+1))=Yp (L.take i)++dG (L.getD i []):=by
 unfold Yp;rw[cy,lk];simp[List.getD,hi]
def gU(w:World):Prop:=zI9 w/\∃g,Tryz.prog.globalNamed "internal/strconv.uint64pow10" = some g/\g<w.heap.size
theorem gU.below(h:gU w)(hb:Below w.heap.size w w'):gU w':=by
 obtain⟨h1,g,h2,h3⟩:=h;exact⟨h1.below ⟨g,h2,h3⟩ hb,g,h2,tm h3 hb.size⟩
theorem Yl(w:World)(n:Int)(h0:0<=n)(h1:n<=9999)(hT:gU w):Calls Tryz.prog 45 #[.int .i64 n] w fun e w'=>e=.returned (.string ⟨(Lib.itoa n).toArray⟩)/\Below w.heap.size w w':=by
 refine(Tryz.strconv_Itoa_laid n (by omega) (by omega) w hT.1).mono ?_;rintro e w' ⟨rfl,k,os,rfl⟩;exact⟨rfl,(KT.growN k os (tg _)).below⟩
def rC(k:Nat):Bs:=([[60],[60,61],[61],[33,61],[62,61],[62]]:List Bs).getD k []
theorem Dk(w:World)(k:Nat)(hk:k<6):Calls Tryz.prog 135 #[.int .i64 (k:Int)] w fun e w'=>e=.returned (.string ⟨(rC k).toArray⟩)/\Below w.heap.size w w':=by
 have HB:Hid (∀o,Below w.heap.size w (w.alloc o)):=fun o=>fe (tg _) o;have hc:k=0\/k=1\/k=2\/k=3\/k=4\/k=5:=by omega
 rcases hc with rfl|rfl|rfl|rfl|rfl|rfl
 all_goals
  go_enter Tryz.func135,Tryz.ntmps135
  go_wp2_with fail
  go_ret
  exact⟨rfl,HB.out _⟩
def uS(t:yF):List Bs :=
 if t.kind=0 then [iE] else if t.kind=1 then [yV t.x.toNat] else if t.kind=2 then [sG,xL 99 t.x.toNat] else
 if t.kind=3 then [yV t.x.toNat,rC t.mark.toNat,Lib.itoa t.n] else [yV t.x.toNat,rC t.mark.toNat,yV t.y.toNat]
def xH(t:yF)(lo:Bool):List Bs:=(if t.not=true then [[110,111,116]] else [])++(if (lo&&t.pair)=true then [[40]] else [])++uS t++(if (lo&&t.pair)=true then [[41]] else [])
structure Km(w wx:World)(bo:Obj)(v:Value)(ws:List Bs):Prop where
 box:wx.heap[w.heap.size]? = some bo
 own:wx.ownsRow (w.heap.size+1) 9 1 v ws.length (vH ws)
 bel:Below w.heap.size w wx
theorem Km.below{wx:World}{bo:Obj}(h:Km w wx bo v ws)(hb:Below wx.heap.size wx w'):Km w w' bo v ws:=⟨(hb.block _ (zQ h.box)).trans h.box,kD h.own hb,h.bel.trans (hb.mono h.bel.size)⟩
theorem Km.app{wx wz w9:World}{bo:Obj}{v9:Value}{ns:List Bs}(h:Km w wx bo v ws)(hz:Below wx.heap.size wx wz)(hg:wz.grownBy w9 v.ownBlock)(zJU:w9.ownsRow (w.heap.size+1) 9 1 v9 (ws.length+ns.length) (vH ws++vH ns)):Km w w9 bo v9 (ws++ns):=by
 have hZ:=h.below hz;have hb:Below (w.heap.size+1) wz w9:=(tl _ wz).grown hg (zQ hZ.box) (zV hZ.own);refine⟨(hb.block _ (mt _)).trans hZ.box,?_,hZ.bel.trans (hb.mono (mu _))⟩;rw[tq];have e:vH (ws++ns)=vH ws++vH ns:=by unfold vH;rw[lj]
 rw[e];exact zJU
end Go.Proofs.YtnbpdffdnphbeabGreatDoor
