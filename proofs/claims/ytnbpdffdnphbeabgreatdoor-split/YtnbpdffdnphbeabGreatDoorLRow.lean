import Derived.Test.YtnbpdffdnphbeabGreatDoorFGuard
namespace Go.Proofs.YtnbpdffdnphbeabGreatDoor
open Go.RowKit
variable{L:List (List Bs)}{ws:List Bs}{v:Value}{w' w:World}
def U7(w:World)(v:Value)(ws:List Bs):Prop:=∃a c,v=.slice a ws.length c/\yZ w 9 a (vE ws)
def jV(w:World):List Value->List (List Bs)->Prop
 | [],[]=>True
 | v::vs,l::L=>U7 w v l/\jV w vs L
 | _,_=>False
theorem U7.below(h:U7 w v ws)(hb:Below w.heap.size w w'):U7 w' v ws:=by
 obtain⟨a,c,e,p⟩:=h;exact⟨a,c,e,p.below hb⟩
theorem U7.grown{B n:Nat}{ov:Value}{ys:List Value}(h:U7 w v ws)(zL1:w.ownsRow B 70 1 ov n ys)(hg:w.grownBy w' ov.ownBlock):U7 w' v ws:=by
 obtain⟨a,c,e,p⟩:=h;exact⟨a,c,e,p.grown zL1 (by decide) hg⟩
theorem jV.keep(hk:∀v ws,U7 w v ws->U7 w' v ws):∀(vs:List Value) (L:List (List Bs)),jV w vs L->jV w' vs L
 | [],[],_=>trivial
 | v::vs,l::L,h=>⟨hk v l h.1,jV.keep hk vs L h.2⟩
 | [],_::_,h=>absurd h id
 | _::_,[],h=>absurd h id
theorem jV.below{vs:List Value}(h:jV w vs L)(hb:Below w.heap.size w w'):jV w' vs L:=jV.keep (fun _ _ h=>h.below hb) vs L h
theorem jV.grown{vs:List Value}{B n:Nat}{ov:Value}{ys:List Value}(h:jV w vs L)(zL1:w.ownsRow B 70 1 ov n ys)(hg:w.grownBy w' ov.ownBlock):jV w' vs L:=jV.keep (fun _ _ h=>h.grown zL1 hg) vs L h
theorem jV.snoc{l:List Bs}(hv:U7 w v l):∀ {vs:List Value} {L:List (List Bs)},jV w vs L->jV w (vs++[v]) (L++[l])
 | [],[],_=>⟨hv,trivial⟩
 | _::_,_::_,h=>⟨h.1,jV.snoc hv h.2⟩
 | [],_::_,h=>absurd h id
 | _::_,[],h=>absurd h id
def vA(vs:List Value)(i:Nat):Value:=vs.getD i (.slice none 0 0)
theorem jV.get:∀ {vs:List Value} {L:List (List Bs)},jV w vs L->∀i,i<L.length->vs[i]? = some (vA vs i)/\U7 w (vA vs i) (L.getD i [])
 | [],[],_,i,hi=>absurd hi (by simp)
 | _::_,_::_,h,0,_=>⟨rfl,h.1⟩
 | _::vs,_::L,h,i+1,hi=>jV.get (vs:=vs) (L:=L) h.2 i (by simpa using hi)
 | [],_::_,h,_,_=>absurd h id
 | _::_,[],h,_,_=>absurd h id
def zFU(w:World)(a:Option Addr)(L:List (List Bs)):Prop:=∃vs,yZ w 70 a vs/\jV w vs L
theorem zFU.line{a:Option Addr}(h:zFU w a L)(i:Nat)(hi:i<L.length):∃g la lc,a=some ⟨g,0,none⟩/\w.cell? ⟨g,i,none⟩=some (.slice la (L.getD i []).length lc)/\∀k,k<(L.getD i []).length->∃gl,la=some ⟨gl,0,none⟩/\w.cell? ⟨gl,k,none⟩=some (.string ⟨((L.getD i []).getD k []).toArray⟩):=by
 obtain⟨vs,h1,h2⟩:=h;obtain⟨e1,la,lc,e2,h3⟩:=h2.get i hi;obtain⟨g,e3,h4⟩:=h1.cel.at e1;rw[e2]at h4;exact⟨g,la,lc,e3,h4,fun k hk=>h3.cel.at (YJ _ k hk)⟩
def zt(ws:List Bs):Nat->Bs
 | 0=>[]
 | k+1=>(if 0<k/\ws.getD k []≠[59] then zt ws k++[32] else zt ws k)++ws.getD k []
def zC2:List Bs->Bs
 | []=>[]
 | w::r=>(if w=[59] then w else 32::w)++zC2 r
theorem ye(l:List Bs)(w:Bs):zC2 (l++[w])=zC2 l++(if w=[59] then w else 32::w):=by
 induction l with
 | nil=>simp[zC2]
 | cons x r ih=>rw[cf,zC2,ih,zC2,pt]
theorem zJT(l:List Bs):DZ l=zC2 l++[10]:=by
 induction l with
 | nil=>rfl
 | cons x r ih=>rw[DZ,zC2,ih,pt]
theorem kz(w:Bs)(r:List Bs):∀k,k<=r.length->zt (w::r) (k+1)=w++zC2 (r.take k):=by
 intro k
 induction k with
 | zero=>intro _;simp[zt,zC2]
 | succ k ih =>
   intro hk;have e:(w::r).getD (k+1) []=r.getD k []:=rfl
   have et:r.take (k+1)=r.take k++[r.getD k []]:=by
    rw[cy];simp[List.getD,show k<r.length by omega]
   rw[zt,e,ih (by omega),et,ye];by_cases h:r.getD k []=[59]
   ·rw[tb (fun q=>q.2 h),tl h];simp
   ·rw[tl ⟨by omega,h⟩,tb h];simp
theorem zEE(ws:List Bs):zt ws ws.length++[10]=mU ws:=by
 cases ws with
 | nil=>rfl
 | cons w r=>rw[pf,kz w r _ (j1 _),bw,mU,zJT,pt]
theorem K5(L:List (List Bs))(i:Nat)(hi:i<L.length):wU (L.take (i+1))=wU (L.take i)++mU (L.getD i []):=by
 unfold wU;rw[cy,lu];simp[List.getD,hi]
def rL(w:World):Prop:=zKQ w/\∃g,Tryz.prog.globalNamed "internal/strconv.uint64pow10" = some g/\g<w.heap.size
theorem rL.below(h:rL w)(hb:Below w.heap.size w w'):rL w':=by
 obtain⟨h1,g,h2,h3⟩:=h;exact⟨h1.below ⟨g,h2,h3⟩ hb,g,h2,tj h3 hb.size⟩
theorem wC(w:World)(n:Int)(h0:0<=n)(h1:n<=9999)(hT:rL w):Calls Tryz.prog 45 #[.int .i64 n] w fun e w'=>e=.returned (.string ⟨(Lib.itoa n).toArray⟩)/\Below w.heap.size w w':=by
 refine(Tryz.strconv_Itoa_laid n (by omega) (by omega) w hT.1).mono ?_;rintro e w' ⟨rfl,k,os,rfl⟩;exact⟨rfl,(KT.growN k os (j1 _)).below⟩
def sE(k:Nat):Bs:=([[60],[60,61],[61],[33,61],[62,61],[62]]:List Bs).getD k []
theorem DD(w:World)(k:Nat)(hk:k<6):Calls Tryz.prog 135 #[.int .i64 (k:Int)] w fun e w'=>e=.returned (.string ⟨(sE k).toArray⟩)/\Below w.heap.size w w':=by
 have HB:Hid (∀o,Below w.heap.size w (w.alloc o)):=fun o=>gb (j1 _) o;have hc:k=0\/k=1\/k=2\/k=3\/k=4\/k=5:=by omega
 rcases hc with rfl|rfl|rfl|rfl|rfl|rfl
 all_goals
  go_enter Tryz.func135,Tryz.ntmps135
  go_wp2_with fail
  go_ret
  exact⟨rfl,HB.out _⟩
def uN(t:zR):List Bs :=
 if t.kind=0 then [iS] else if t.kind=1 then [yD t.x.toNat] else if t.kind=2 then [aB,xG 99 t.x.toNat] else
 if t.kind=3 then [yD t.x.toNat,sE t.mark.toNat,Lib.itoa t.n] else [yD t.x.toNat,sE t.mark.toNat,yD t.y.toNat]
def xB(t:zR)(lo:Bool):List Bs:=(if t.not=true then [[110,111,116]] else [])++(if (lo&&t.pair)=true then [[40]] else [])++uN t++(if (lo&&t.pair)=true then [[41]] else [])
structure K2(w wx:World)(bo:Obj)(v:Value)(ws:List Bs):Prop where
 box:wx.heap[w.heap.size]? = some bo
 own:wx.ownsRow (w.heap.size+1) 9 1 v ws.length (vE ws)
 bel:Below w.heap.size w wx
theorem K2.below{wx:World}{bo:Obj}(h:K2 w wx bo v ws)(hb:Below wx.heap.size wx w'):K2 w w' bo v ws:=⟨(hb.block _ (zJ h.box)).trans h.box,uV h.own hb,h.bel.trans (hb.mono h.bel.size)⟩
theorem K2.app{wx wz w9:World}{bo:Obj}{v9:Value}{ns:List Bs}(h:K2 w wx bo v ws)(hz:Below wx.heap.size wx wz)(hg:wz.grownBy w9 v.ownBlock)(zL1:w9.ownsRow (w.heap.size+1) 9 1 v9 (ws.length+ns.length) (vE ws++vE ns)):K2 w w9 bo v9 (ws++ns):=by
 have hZ:=h.below hz;have hb:Below (w.heap.size+1) wz w9:=(tg _ wz).grown hg (zJ hZ.box) (zU hZ.own);refine⟨(hb.block _ (l8 _)).trans hZ.box,?_,hZ.bel.trans (hb.mono (mw _))⟩;rw[tm];have e:vE (ws++ns)=vE ws++vE ns:=by unfold vE;rw[bi]
 rw[e];exact zL1
end Go.Proofs.YtnbpdffdnphbeabGreatDoor
