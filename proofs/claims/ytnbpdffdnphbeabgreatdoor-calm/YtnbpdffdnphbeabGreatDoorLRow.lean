import Derived.Test.YtnbpdffdnphbeabGreatDoorFGuard
namespace Go.Proofs.YtnbpdffdnphbeabGreatDoor
open Go.RowKit
variable{L:List (List Bs)}{ws:List Bs}{v:Value}{w w':World}
def Ut(w:World)(v:Value)(ws:List Bs):Prop:=∃a c,v=.slice a ws.length c/\xG w 9 a (vC ws)
def jX(w:World):List Value->List (List Bs)->Prop
 | [],[]=>True
 | v::vs,l::L=>Ut w v l/\jX w vs L
 | _,_=>False
theorem Ut.below(h:Ut w v ws)(hb:Below w.heap.size w w'):Ut w' v ws:=by
 obtain⟨a,c,e,p⟩:=h;exact⟨a,c,e,p.below hb⟩
theorem Ut.grown{B n:Nat}{ov:Value}{ys:List Value}(h:Ut w v ws)(zK6:w.ownsRow B 70 1 ov n ys)(hg:w.grownBy w' ov.ownBlock):Ut w' v ws:=by
 obtain⟨a,c,e,p⟩:=h;exact⟨a,c,e,p.grown zK6 (by decide) hg⟩
theorem jX.keep(hk:∀v ws,Ut w v ws->Ut w' v ws):∀(vs:List Value) (L:List (List Bs)),jX w vs L->jX w' vs L
 | [],[],_=>trivial
 | v::vs,l::L,h=>⟨hk v l h.1,jX.keep hk vs L h.2⟩
 | [],_::_,h=>absurd h id
 | _::_,[],h=>absurd h id
theorem jX.below{vs:List Value}(h:jX w vs L)(hb:Below w.heap.size w w'):jX w' vs L:=jX.keep (fun _ _ h=>h.below hb) vs L h
theorem jX.grown{vs:List Value}{B n:Nat}{ov:Value}{ys:List Value}(h:jX w vs L)(zK6:w.ownsRow B 70 1 ov n ys)(hg:w.grownBy w' ov.ownBlock):jX w' vs L:=jX.keep (fun _ _ h=>h.grown zK6 hg) vs L h
theorem jX.snoc{l:List Bs}(hv:Ut w v l):∀ {vs:List Value} {L:List (List Bs)},jX w vs L->jX w (vs++[v]) (L++[l])
 | [],[],_=>⟨hv,trivial⟩
 | _::_,_::_,h=>⟨h.1,jX.snoc hv h.2⟩
 | [],_::_,h=>absurd h id
 | _::_,[],h=>absurd h id
def vA(vs:List Value)(i:Nat):Value:=vs.getD i (.slice none 0 0)
theorem jX.get:∀ {vs:List Value} {L:List (List Bs)},jX w vs L->∀i,i<L.length->vs[i]? = some (vA vs i)/\Ut w (vA vs i) (L.getD i [])
 | [],[],_,i,hi=>absurd hi (by simp)
 | _::_,_::_,h,0,_=>⟨rfl,h.1⟩
 | _::vs,_::L,h,i+1,hi=>jX.get (vs:=vs) (L:=L) h.2 i (by simpa using hi)
 | [],_::_,h,_,_=>absurd h id
 | _::_,[],h,_,_=>absurd h id
def zEY(w:World)(a:Option Addr)(L:List (List Bs)):Prop:=∃vs,xG w 70 a vs/\jX w vs L
theorem zEY.line{a:Option Addr}(h:zEY w a L)(i:Nat)(hi:i<L.length):∃g la lc,a=some ⟨g,0,none⟩/\w.cell? ⟨g,i,none⟩=some (.slice la (L.getD i []).length lc)/\∀k,k<(L.getD i []).length->∃gl,la=some ⟨gl,0,none⟩/\w.cell? ⟨gl,k,none⟩=some (.string ⟨((L.getD i []).getD k []).toArray⟩):=by
 obtain⟨vs,h1,h2⟩:=h;obtain⟨e1,la,lc,e2,h3⟩:=h2.get i hi;obtain⟨g,e3,h4⟩:=h1.cel.at e1;rw[e2]at h4;exact⟨g,la,lc,e3,h4,fun k hk=>h3.cel.at (YB _ k hk)⟩
def GL(ws:List Bs):Nat->Bs
 | 0=>[]
 | k+1=>(if 0<k/\ws.getD k []≠[59] then GL ws k++[32] else GL ws k)++ws.getD k []
def zB6:List Bs->Bs
 | []=>[]
 | w::r=>(if w=[59] then w else 32::w)++zB6 r
theorem GV(l:List Bs)(w:Bs):zB6 (l++[w])=zB6 l++(if w=[59] then w else 32::w):=by
 induction l with
 | nil=>simp[zB6]
 | cons x r ih=>rw[cd,zB6,ih,zB6,pr]
theorem zJ1(l:List Bs):DG l=zB6 l++[10]:=by
 induction l with
 | nil=>rfl
 | cons x r ih=>rw[DG,zB6,ih,pr]
theorem uw(w:Bs)(r:List Bs):∀k,k<=r.length->GL (w::r) (k+1)=w++zB6 (r.take k):=by
 intro k
 induction k with
 | zero=>intro _;simp[GL,zB6]
 | succ k ih =>
   intro hk;have e:(w::r).getD (k+1) []=r.getD k []:=rfl
   have et:r.take (k+1)=r.take k++[r.getD k []]:=by
    rw[cw];simp[List.getD,show k<r.length by omega]
   rw[GL,e,ih (by omega),et,GV];by_cases h:r.getD k []=[59]
   ·rw[tb (fun q=>q.2 h),tm h];simp
   ·rw[tm ⟨by omega,h⟩,tb h];simp
theorem zDF(ws:List Bs):GL ws ws.length++[10]=mP ws:=by
 cases ws with
 | nil=>rfl
 | cons w r=>rw[pd,uw w r _ (j1 _),bt,mP,zJ1,pr]
theorem Ky(L:List (List Bs))(i:Nat)(hi:i<L.length):eK (L.take (i+1))=eK (L.take i)++mP (L.getD i []):=by
 unfold eK;rw[cw,li];simp[List.getD,hi]
def rK(w:World):Prop:=zJV w/\∃g,Tryz.prog.globalNamed "internal/strconv.uint64pow10" = some g/\g<w.heap.size
theorem rK.below(h:rK w)(hb:Below w.heap.size w w'):rK w':=by
 obtain⟨h1,g,h2,h3⟩:=h;exact⟨h1.below ⟨g,h2,h3⟩ hb,g,h2,tj h3 hb.size⟩
theorem iQ(w:World)(n:Int)(h0:0<=n)(h1:n<=9999)(hT:rK w):Calls Tryz.prog 45 #[.int .i64 n] w fun e w'=>e=.returned (.string ⟨(Lib.itoa n).toArray⟩)/\Below w.heap.size w w':=by
 refine(Tryz.strconv_Itoa_laid n (by omega) (by omega) w hT.1).mono ?_;rintro e w' ⟨rfl,k,os,rfl⟩;exact⟨rfl,(KT.growN k os (j1 _)).below⟩
def sA(k:Nat):Bs:=([[60],[60,61],[61],[33,61],[62,61],[62]]:List Bs).getD k []
theorem Dt(w:World)(k:Nat)(hk:k<6):Calls Tryz.prog 135 #[.int .i64 (k:Int)] w fun e w'=>e=.returned (.string ⟨(sA k).toArray⟩)/\Below w.heap.size w w':=by
 have HB:Hid (∀o,Below w.heap.size w (w.alloc o)):=fun o=>fj (j1 _) o;have hc:k=0\/k=1\/k=2\/k=3\/k=4\/k=5:=by omega
 rcases hc with rfl|rfl|rfl|rfl|rfl|rfl
 all_goals
  go_enter Tryz.func135,Tryz.ntmps135
  go_wp2_with fail
  go_ret
  exact⟨rfl,HB.out _⟩
def uN(t:yB):List Bs :=
 if t.kind=0 then [iG] else if t.kind=1 then [yK t.x.toNat] else if t.kind=2 then [sT,yZ 99 t.x.toNat] else
 if t.kind=3 then [yK t.x.toNat,sA t.mark.toNat,Lib.itoa t.n] else [yK t.x.toNat,sA t.mark.toNat,yK t.y.toNat]
def xC(t:yB)(lo:Bool):List Bs:=(if t.not=true then [[110,111,116]] else [])++(if (lo&&t.pair)=true then [[40]] else [])++uN t++(if (lo&&t.pair)=true then [[41]] else [])
structure Kv(w wx:World)(bo:Obj)(v:Value)(ws:List Bs):Prop where
 box:wx.heap[w.heap.size]? = some bo
 own:wx.ownsRow (w.heap.size+1) 9 1 v ws.length (vC ws)
 bel:Below w.heap.size w wx
theorem Kv.below{wx:World}{bo:Obj}(h:Kv w wx bo v ws)(hb:Below wx.heap.size wx w'):Kv w w' bo v ws:=⟨(hb.block _ (zL h.box)).trans h.box,kE h.own hb,h.bel.trans (hb.mono h.bel.size)⟩
theorem Kv.app{wx wz w9:World}{bo:Obj}{v9:Value}{ns:List Bs}(h:Kv w wx bo v ws)(hz:Below wx.heap.size wx wz)(hg:wz.grownBy w9 v.ownBlock)(zK6:w9.ownsRow (w.heap.size+1) 9 1 v9 (ws.length+ns.length) (vC ws++vC ns)):Kv w w9 bo v9 (ws++ns):=by
 have hZ:=h.below hz;have hb:Below (w.heap.size+1) wz w9:=(tg _ wz).grown hg (zL hZ.box) (zV hZ.own);refine⟨(hb.block _ (my _)).trans hZ.box,?_,hZ.bel.trans (hb.mono (mw _))⟩;rw[tl];have e:vC (ws++ns)=vC ws++vC ns:=by unfold vC;rw[bg]
 rw[e];exact zK6
end Go.Proofs.YtnbpdffdnphbeabGreatDoor
