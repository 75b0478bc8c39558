import Derived.Test.YtppjlpihaocdiaaGreatDoorBmQ
import Derived.Test.YtppjlpihaocdiaaGreatDoorBkQ
import Derived.Test.YtppjlpihaocdiaaGreatDoorBlQ
set_option linter.all false
set_option maxRecDepth 100000
set_option maxHeartbeats 16000000
namespace Go.Proofs.YtppjlpihaocdiaaGreatDoor
open Go.RowKit Go.Proofs.Tryz
variable{w u v:ae}{a b c d e:Nat}{s t:ag}{x y z:af}{p D:Int}{l:List af}{f:Bool}{g:List Nat}{h:Nat->Prop}{o:Option Addr}{r:List UInt8}{A:Nat->Bool}{B:Nat->Nat->Bool}{C:Nat->Nat->Prop}(i:Nat)(S T:ag)(V X:af)(j k m n:Nat)(Z:Int)(W:ae)
def akr(h:ae):Ch:=λg c b=>by
 let⟨j,o,p,d,_⟩:=afw g h Q [];let⟨s,n,i,r,l,q,t,_,a,_⟩:=d;obtain⟨_,_,_,_,a⟩|⟨_,m,_,_,a⟩:=a
 .let⟨u,k,_,_,e,f,_⟩:=a b;exact⟨ajs c,b,e,f⟩
 rw[c]at a;cases a
def ahu(b:Nat)(a:ag):∀(n:Nat)(c:ae)(d g:ie)(e i f:af),RE c b a d e i f->Cj d->Ht a n d g->Calls prog 90 #[.pointer<|some ⟨b,0,none⟩] c (RQ b a e i f c g)
 |0,_,_,_,_,_,_,_,_,h=>h.elim
 |n+1,c,d,g,e,i,f,h,hf,hR=>amc b a (Hk a<|Ht a n) (al9 b a (Ht a n)<|ahu b a n) (a.size+1) d g e i f c h hf hR
def RE.env{g:ie}{M:List Cm}(d:RE w a s g x y z)(A:Rv s M g):∃k,∀n:Dw,n.B=w.heap.size->n.rb=a->n.cf.U=M->gx n.cf->Env w n k g.cs g.ns g.gs:=by
 let⟨xs,t,T⟩:=d.ls;let⟨a4,a5,U⟩:=A.ye;have a2:=A.le;have a3:=A.s4;have F:=d.row.xc 2;have H:=d.row.xc 3;have K:=d.row.xc 4;have V:∀c h,g.cs[c]?=some h->∃m o p,(∀P v,(ig h m o p)[P]?=some v->xs[c*16+P]?=some v)/\xf w w.heap.size h m o p:=λc h r=>by
  let⟨m,o,p,C,D⟩:=T c h r;exact⟨m,o,p,C,D w ah λ_ _ _=>rfl⟩
 have qa:∃k,k<w.heap.size/\(∃l i,x=.slice l g.cs.length i/\(0<g.cs.length->l=some (O k 0)))/\∀j u,xs[j]?=some u->w.cell? (O k j)=some u:=by
  obtain e|e:=yzu g.cs.length
  .let⟨l,i,b⟩:=yq t;refine⟨a,d.lt,⟨l,i,b,λq=>Q⟩,λj u B=>?_⟩;have:=t.1;rw[je Q]at B;cases B
  let⟨E,i,b,_,_⟩:=t.form e;have L:x.ownBlock=some E:=by rw[b];rfl
  refine⟨E,(t.lt E L).2,⟨_,i,b,λ_=>rfl⟩,λj u B=>?_⟩;have:=t.cells L j u B;obtain q|q:=yzu j
  .subst q;exact this
  rw[Addr.add,N]at this;simpa using this
 let⟨k,W,⟨l,i,E,X⟩,Z⟩:=qa;refine⟨k,λn B b L R=>⟨⟨⟨l,i,?_,X⟩,λc h r=>?_,?_,?_,Q⟩,⟨⟨l,i,?_⟩,⟨y,?_,d.ns.mono<|ey _⟩,⟨z,?_,d.gs.mono<|ey _⟩,U,Q⟩,λv c f r=>?_,by rw[L];exact A.len,λc h a1 S a0=>A.rel c h a1 S<|by rw[<-L];exact a0,R⟩⟩
 .rw[b,F,E]
 .let⟨m,o,p,C,D⟩:=V c h r;exact⟨m,o,p,λj v f=>Z _ _<|C j v f,by rw[B];exact D⟩
 .rw[B,b];exact d.lt
 .rw[B];exact W
 .rw[b,F,E]
 .rw[b];exact H
 .rw[b];exact K
 rw[b]at f;rw[B];obtain f|f:=f
 .rw[H]at f;cases f;exact(d.ns.lt c r).2
 rw[K]at f;cases f;exact(d.gs.lt c r).2
def atc{h:List Cm}{g:ie}(e:Rv s h g):Dq s h:=λf=>by
 have k:=hd e;have m:=e.s4;go_in;have n:=hd (show∀c:ae,bd c f.heap.size [.string s,I 0,.slice none 0 0,.slice none 0 0,.slice none 0 0]->RE c f.heap.size s ⟨0,[],[],[]⟩ (.slice none 0 0) (.slice none 0 0) (.slice none 0 0)from λc l=>
  ⟨l,⟨[],⟨rfl,.inl ⟨rfl,rfl⟩⟩,λd w a=>(by cases a)⟩,⟨rfl,.inl ⟨rfl,rfl⟩⟩,⟨rfl,.inl ⟨rfl,rfl⟩⟩,ey _,m,λd a=>(by cases a),λd a=>(by cases a)⟩)
 go_wp2_with (refine ti 6 rfl rfl 128 (.tmp 5) rfl [.string s,I 0,.slice none 0 0,.slice none 0 0,.slice none 0 0] rfl ?_;intro c p i j;have o:=hd<|n c i;have b:=hd j;clear i j p);have i:=ahu f.heap.size s 7 c ⟨0,[],[],[]⟩ g _ _ _ o ⟨ah,ah,rfl⟩ k.row;go_call i;rintro x y ⟨rfl,t,u,v,j,hF⟩;have p:=hd j;have r:=hd hF;go_wp21;go_ret;let⟨i,j⟩:=p.env k;refine⟨_,i,_,_,_,rfl,?_,j⟩;have hF:=r.out;exact⟨hF.os.trans b.os,hF.tape.trans b.tape,hF.output.trans b.output,bq b.size hF.size,λd a=>(hF.block d (ew a b.size) λq=>by
  obtain q|q|q|q:=q
  .omega
  .cases q
  .cases q
  cases q).trans<|b.block d a⟩
def atd(g:ae){a:List Cm}(b:s.size<=400)(c:(hq s).2=true)(d:(hq s).1.bk=-1)(e:joinL (hq s).1.bh (hq s).1.U.length (hq s).1.bh 0 (hq s).1.U=.ok a):Dq s a:=by
 let⟨h,f⟩:=ate (akr g) b c d e;exact atc f
section
def aqn(a b c:Int)(f:Bool)(w:ae):Calls prog 38 #[.agg #[.int .i64 a,.int .i64 b,.int .i64 c,.bool f]] w λe w'=>e=.returned (.bool<|uo a b c)/\Below w.heap.size w w':=by
 go_in;go_wp21
 all_goals go_ret
 all_goals refine⟨congrArg (λg=>Ending.returned<|Value.bool g) ?_,mj w _⟩
 all_goals rw[vv]
 all_goals simp[uo,uf]
 all_goals omega
def Ib(bl:Nat)(s:ag)(cf:Cf)(inp:ag)(d:Bool)(t:Nat):List af:=
 [ab bl 0,.string s,I cf.line,I cf.space,I cf.dt,.bool cf.quiet,.string inp,.bool d,I t]
structure XX(o o':Nat->Nat)(i:Nat)(w w':ae):Prop where
 nz:i≠0
 os:w'.os=w.os
 tape:w'.tape=w.tape
 output:w'.output=w.output
 size:w.heap.size<=w'.heap.size
 old:∀k,k<w.heap.size->o' k=o k
 new:∀k,w.heap.size<=k->o' k=0\/o' k=i/\k<w'.heap.size
 block:∀k,k<w.heap.size->o k≠i->w'.heap[k]?=w.heap[k]?
def XV(o:Nat->Nat)(w:ae):Prop:=∀k,w.heap.size<=k->o k=0
section
variable {o o' o'':Nat->Nat} {i:Nat} {w w' w'':ae}
def XX.trans(a:XX o o' i w w')(b:XX o' o'' i w' w''):XX o o'' i w w'':=
 ⟨a.nz,b.os.trans a.os,b.tape.trans a.tape,b.output.trans a.output,bq a.size b.size,λj c=>(b.old j<|ew c a.size).trans<|a.old j c,λj c=>by
  by_cases g:j<w'.heap.size
  .rw[b.old j g];exact(a.new j c).imp id λe=>⟨e.1,ew e.2 b.size⟩
  exact b.new j Q,λj c f=>(b.block j (ew c a.size)<|by rw[a.old j c];exact f).trans<|a.block j c f⟩
def XX.og(a:XX o o' i w w'):XV o' w':=λc b=>by
 rcases a.new c (bq a.size b)with e|e
 .exact e
 omega
def XV.below(e:XV o w)(f:i≠0)(a:Below w.heap.size w w'):XX o o i w w':=
 ⟨f,a.os,a.tape,a.output,a.size,λ_ _=>rfl,λc b=> .inl<|e c b,λc b _=>a.block c b⟩
def XV.bj(f:XV o w)(g:i≠0)(b:bf a w w')(l:o a=i):XX o o i w w':=
 ⟨g,b.os,b.tape,b.output,yh b.size.symm,λ_ _=>rfl,λc h=> .inl<|f c h,λc _ k=>b.block c λe=>k<|e▸l⟩
end
structure ZZ(o:Nat->Nat)(i:Nat)(w:ae)(bb bl:Nat)(s:ag)(cf:Cf)(inp:ag)(d:Bool)(t:Nat)(E:Ed):Prop where
 row:bd w bb (Ib bl s cf inp d t)
 ow:o bb=i
 nz:i≠0
 al:∃v,At w bl cf E v/\(∀k,ib bl v k->o k=i/\k≠bb)/\zy w (λk=>o k≠0) v.cm cf.U
@[reducible] def XJ (bb:Nat) (s:ag) (cf:Cf) (inp:ag) (d:Bool) (W:ae):Prop:=W.cell? (O bb 1)=some (.string s)/\W.cell? (O bb 2)=some (I cf.line)/\W.cell? (O bb 3)=some (I cf.space)/\W.cell? (O bb 4)=some (I cf.dt)/\W.cell? (O bb 5)=some (.bool cf.quiet)/\W.cell? (O bb 6)=some (.string inp)/\W.cell? (O bb 7)=some (.bool d)
def QQ{w w':ae}{bl:Nat}{cf:Cf}{E:Ed}{f:Ev}(c:At w bl cf E f)(e:∀a,ib bl f a->w'.heap[a]?=w.heap[a]?)(g:zy w' (ib bl f) f.cm cf.U):At w' bl cf E f:=
 ⟨c.row.cw<|e _<|.inl rfl,da c.nx λa b=>e a<|.inr<|.inl b,da c.ot λa b=>e a<|.inr<|.inr<|.inl b,da c.cg λa b=>e a<|.inr<|.inr<|.inr<|.inl b,da c.op λa b=>e a<|.inr<|.inr<|.inr<|.inr b,g,c.ap⟩
section
variable {o o':Nat->Nat} {i j:Nat} {w w':ae} {bb bl:Nat} {s:ag} {cf:Cf} {inp:ag} {d:Bool} {t:Nat} {E E':Ed}
def ZZ.lt(a:ZZ o i w bb bl s cf inp d t E):bb<w.heap.size:=a.row.lt (by show 0<9;omega)
def ZZ.oth(e:ZZ o i w bb bl s cf inp d t E)(c:XX o o' j w w')(m:i≠j):ZZ o' i w' bb bl s cf inp d t E:=by
 let⟨h,k,g,n⟩:=e.al;have f:∀a,ib bl h a->a<w.heap.size:=λa b=>aeu k a b
 have l:zy w' (λa=>o' a≠0) h.cm cf.U:=n.keep (λa b r=>c.block a b λp=>r<|p▸c.nz) c.size λa b=>by
  by_cases q:a<w.heap.size
  .exact .inl (by rw[<-c.old a q];exact b)
  exact .inr Q
 refine⟨e.row.cw<|c.block bb e.lt<|by rw[e.ow];exact m,by rw[c.old bb e.lt];exact e.ow,e.nz,h,QQ k (λa b=>c.block a (f a b)<|by rw[(g a b).1];exact m)<|l.keep (λ_ _ _=>rfl) ah λa b=> .inl<|by rw[c.old a<|f a b,(g a b).1];exact e.nz,λa b=>by rw[c.old a<|f a b];exact g a b,l⟩
def ZZ.ok(f:ZZ o i w bb bl s cf inp d t E)(q:XV o w){m:Ev}(l:∀a,ib bl m a->o a=i/\a≠bb)(p:zy w (λa=>o a≠0) m.cm cf.U)(a:Ok w bl cf m E' w'):∃o',ZZ o' i w' bb bl s cf inp d t E'/\XX o o' i w w':=by
 let⟨u,h,c⟩:=a;have r:=f.lt;have n:∀a,a<w.heap.size->o a≠i->w'.heap[a]?=w.heap[a]? :=λa b k=>c.block a b λe=>k (l a e).1
 refine⟨λa=>if w.heap.size<=a/\a<w'.heap.size then i else o a,⟨f.row.cw<|c.block bb r λe=>(l bb e).2 rfl,?_,f.nz,u,h,λa b=>?_,?_⟩,f.nz,c.os,c.tape,c.output,c.size,λa b=>N,λa b=>?_,n⟩
 .rw[N];exact f.ow
 .obtain e|e:=c.rp a b
  .have:=aeu h a b;by_cases g:w.heap.size<=a
   .exact⟨G ⟨g,this⟩,Q⟩
   rw[N];exact l a e
  exact⟨G ⟨e,aeu h a b⟩,Q⟩
 .rw[c.cm];refine p.keep (λa b k=>n a b λe=>k<|e▸f.nz) c.size λa b=>?_
  by_cases g:w.heap.size<=a
  .exact .inr g
  rw[N]at b;exact .inl b
 by_cases g:a<w'.heap.size
 .exact .inr ⟨G ⟨b,g⟩,g⟩
 exact .inl (by rw[N];exact q a b)
def ZZ.up(a:ZZ o i w bb bl s cf inp d t E)(b:Below w.heap.size w w'):ZZ o i w' bb bl s cf inp d t E:=by
 let⟨k,c,h,e⟩:=a.al;exact⟨a.row.cw<|b.block bb a.lt,a.ow,a.nz,k,c.below b,h,e.keep (λg f _=>b.block g f) b.size λ_ a=> .inl a⟩
def ZZ.put{inp':ag}{d':Bool}{t':Nat}(b:ZZ o i w bb bl s cf inp d t E)(p:XV o w)(a:Nat)(e:a<9)(c:af)(q:(Ib bl s cf inp d t).set a c=Ib bl s cf inp' d' t'):ZZ o i (w.setCell (O bb a) c) bb bl s cf inp' d' t' E/\XX o o i w (w.setCell (O bb a) c):=by
 have f:bf bb w (w.setCell (O bb a) c):=(bf.refl _ _).setCell a c;have k:=b.row.put a e c;rw[q]at k;let⟨u,l,g,m⟩:=b.al;have h:=m.keep (w':=w.setCell (O bb a) c) (X':=λa=>o a≠0) (λa _ r=>f.block a λn=>r<|by rw[n,b.ow];exact b.nz) (yh f.size.symm) λ_ b=> .inl b
 exact⟨⟨k,b.ow,b.nz,u,QQ l (λa e=>f.block a (g a e).2)<|h.keep (λ_ _ _=>rfl) ah λa e=> .inl<|by rw[(g a e).1];exact b.nz,g,h⟩,p.bj b.nz f b.ow⟩
def ZZ.ly{c:Mf}(p:fj c){b:ag}(f:ZZ o i w bb bl s cf inp d t E)(k:XV o w)(n:gx cf)(l:a+b.size<=2000000)(q:Rest cf a E):Calls prog 29 #[.pointer<|some ⟨bl,0,none⟩,.string b] w λe w'=>e=.returned (.tuple #[])/\∃o',ZZ o' i w' bb bl s cf inp d t (E.ly c cf<|Qjj b)/\XX o o' i w w':=by
 let⟨u,g,r,h⟩:=f.al;go_call an1;rintro e w' ⟨rfl,m⟩;exact⟨rfl,f.ok k r h m⟩
def ZZ.fin{b:Mf}(n:fj b)(e:ZZ o i w bb bl s cf inp d t E)(h:XV o w)(m:gx cf)(k:a<=2000000)(p:Rest cf a E):Calls prog 32 #[.pointer<|some ⟨bl,0,none⟩] w λc w'=>c=.returned (.tuple #[])/\∃o',ZZ o' i w' bb bl s cf inp d t (E.rh b cf)/\XX o o' i w w':=by
 let⟨r,f,q,g⟩:=e.al;go_call anm;rintro c w' ⟨rfl,l⟩;exact⟨rfl,e.ok h q g l⟩
def ZZ.take(c:ZZ o i w bb bl s cf inp d t E)(h:XV o w)(k:a<=2000000)(e:Rest cf a E):Calls prog 31 #[.pointer<|some ⟨bl,0,none⟩,.int .i64 Z] w λb w'=>b=.returned (.string (E.take Z).2)/\∃o',ZZ o' i w' bb bl s cf inp d t (E.take Z).1/\XX o o' i w w':=by
 let⟨n,f,m,g⟩:=c.al;have:=Uz e.1 k;refine(av3 bl cf E n Z w f e.1.ca Q).mono ?_;rintro b w' ⟨rfl,l⟩;exact⟨rfl,c.ok h m g l⟩
def ZZ.ud(f:ZZ o i w bb bl s cf inp d t E)(g:a<=2000000)(c:Rest cf a E):Calls prog 30 #[.pointer<|some ⟨bl,0,none⟩] w λb w'=>b=.returned (.int .i64 E.ud)/\Below w.heap.size w w':=by
 let⟨k,e,m,l⟩:=f.al;have:=Uz c.1 g;refine(atg bl cf E k w e c.1.ca Q).mono ?_;rintro b w' ⟨rfl,h,rfl⟩;exact⟨rfl,Fy _ _ h⟩
def ZZ.ck(c:ZZ o i w bb bl s cf inp d t E):Calls prog 33 #[.pointer<|some ⟨bl,0,none⟩] w λa w'=>a=.returned (.int .i64 E.ck)/\Below w.heap.size w w':=by
 let⟨f,b,h,g⟩:=c.al;go_call au7;rintro a w' ⟨rfl,e,rfl⟩;exact⟨rfl,Fy _ _ e⟩
def ZZ.cs(b:ZZ o i w bb bl s cf inp d t E):XJ bb s cf inp d w:=
 have a:=b.row
 ⟨a.xc 1,a.xc 2,a.xc 3,a.xc 4,a.xc 5,a.xc 6,a.xc 7⟩
end
def ait{g:Mf}(p:fj g){o:Nat->Nat}{i bb bl:Nat}{s:ag}{cf:Cf}{inp:ag}{d:Bool}{t:Nat}{E:Ed}{w:ae}(b:ZZ o i w bb bl s cf inp d t E)(n:gx cf)(q:Dq s cf.U)(v:inp.size<=2000000)(r:(nh g cf d (fy cf)<|Qjj inp).ck=E.ck):
  Calls prog 11 #[.pointer<|some ⟨bb,0,none⟩] w λe w'=>e=.returned (.bool true)/\Below w.heap.size w w':=by
 have h:=hd b;have f:=b.ck;have a:=hd λ(u:ae)=>Xq p s inp d cf u n q v
 rw[r]at a;generalize ce (nh g cf d (fy cf)<|Qjj inp).out=x at a;generalize(E.ck:Int)=y at a f;have l:=b.row.xc 0;go_in;go_wp21;go_call f;rintro e z ⟨rfl,k⟩;have c:=hd<|ss k;have l:=(h.up c).cs;go_wp21;go_region_held_law (XJ bb s cf inp d) (first|exact l|exact k)
  (first
  |(go_at_call 39;(go_call a.out;rintro e A ⟨m,rfl⟩;have f:=hd<|c.trans<|m.mono c.size;have k:=(h.up f).cs;clear m)))
 go_wp21;go_ret;exact⟨qD,f⟩
def ath{a:Mf}(v:fj a){o:Nat->Nat}{i bb bl:Nat}{s:ag}{cf:Cf}{inp:ag}{d:Bool}{t:Nat}{E:Ed}{w:ae}(b:ZZ o i w bb bl s cf inp d t E)(r:gx cf)(y:Dq s cf.U)(u:inp.size<=2000000)(x:Rest cf inp.size E)(c:(ce (nh a cf d (fy cf)<|Qjj inp).out).size=t+E.ud)(B:(ce (nh a cf d (fy cf)<|Qjj inp).out).size<=1099511000000):
  Calls prog 13 #[.pointer<|some ⟨bb,0,none⟩] w λk w'=>k=.returned (.bool true)/\Below w.heap.size w w':=by
 have e:=hd b;have g:=b.ud u x;have h:=hd λ(A:ae)=>Xq v s inp d cf A r y u
 generalize ce (nh a cf d (fy cf)<|Qjj inp).out=m at h c B;generalize((nh a cf d (fy cf)<|Qjj inp).ck:Int)=C at h;generalize E.ud=z at g c;have l:=hd c;have p:=b.row.xc 0;clear b c y r v x;go_in;go_wp21;go_call g;rintro k D ⟨rfl,n⟩;have f:=hd<|ss n;have p:=(e.up f).cs;go_wp21;go_region_held_law (XJ bb s cf inp d) (first|exact p|exact n)
  (first
  |(go_at_call 39;(go_call h.out;rintro k F ⟨q,rfl⟩;have g:=hd<|f.trans<|q.mono f.size;have n:=(e.up g).cs;clear q)))
 have p:=(e.up g).row.xc 8;have n:((z:Int)==m.size-(t:Int))=true:=by rw[ra];have:=l.out;omega
 have q:t<=m.size:=by have:=l.out;omega
 go_wp21;go_ret;exact⟨by simp[n],g⟩
def an3{n:Mf}(k:fj n){o:Nat->Nat}{i bb bl:Nat}{s:ag}{cf:Cf}{inp p:ag}{d:Bool}{t:Nat}{E:Ed}{w:ae}(b:ZZ o i w bb bl s cf inp d t E)(v:XV o w)(g:gx cf)(x:inp.size+p.size<=2000000)(l:Rest cf inp.size E):
  Calls prog 12 #[.pointer<|some ⟨bb,0,none⟩,.string p] w λf w'=>f=.returned (.tuple #[])/\∃o',ZZ o' i w' bb bl s cf (if d=true then inp else inp++p) d t (E.ly n cf<|Qjj p)/\XX o o' i w w':=by
 have r:=hd b;have m:=b.ly k v g x l;have u:=b.row.xc 0;go_in;go_wp21;go_call m;rintro f y ⟨rfl,q,e,h⟩;have a:=hd e;have c:=hd h;have h:=a.row.xc 6;have m:=a.row.xc 7;have u6:=a.row.frozen (k:=6) (by show 6<9;omega);cases d
 .have e:=hd (a.put (inp':=inp++p) (d':=false) (t':=t) c.og 6 Q (.string<|inp++p) rfl);go_wp21;go_returns;exact⟨rfl,q,e.1,c.trans e.2⟩
 go_wp21;go_returns;exact⟨rfl,q,a,c⟩
def ann{n:Mf}(k:fj n){o:Nat->Nat}{i bb bl:Nat}{s:ag}{cf:Cf}{inp:ag}{d:Bool}{t K:Nat}{E:Ed}{w:ae}(a:ZZ o i w bb bl s cf inp d t E)(r:XV o w)(g:gx cf)(u:K<=2000000)(l:Rest cf K E):
  Calls prog 14 #[.pointer<|some ⟨bb,0,none⟩] w λf w'=>f=.returned (.tuple #[])/\∃o',ZZ o' i w' bb bl s cf inp true t (E.rh n cf)/\XX o o' i w w':=by
 have p:=hd a;have m:=a.fin k r g u l;have q:=a.row.xc 0;go_in;go_wp21;go_call m;rintro f x ⟨rfl,v,c,h⟩;have b:=hd c;have e:=hd h;have h:=b.row.xc 7;have u7:=b.row.frozen (k:=7) (by show 7<9;omega);have c:=hd (b.put (inp':=inp) (d':=true) (t':=t) e.og 7 Q (.bool true) rfl);go_wp21;go_returns;exact⟨rfl,v,c.1,e.trans c.2⟩
end
def ZZ.new{m:Nat->Nat}{j h g i:ae}{l:Cf}{p:Ed}{f:Ev}(r:a≠0)(x:XV m j)(C:j.heap.size<=h.heap.size)(q:At h b l p f)(B:∀c,ib b f c->j.heap.size<=c)(v:zy h (λc=>ib b f c\/m c≠0) f.cm l.U)(n:Below h.heap.size h g)(A:bd i g.heap.size (Ib b s l ⟨#[]⟩ false 0))(z:Below g.heap.size g i)(E:i.heap.size=g.heap.size+1)(k:Below j.heap.size j i):∃u,ZZ u a i g.heap.size b s l ⟨#[]⟩ false 0 p/\XX m u a j i:=by
 classical
 have o:Below h.heap.size h i:=n.trans<|z.mono n.size;have D:=n.size;have t:∀c,ib b f c->c<h.heap.size:=λc d=>aeu q c d
 refine⟨λc=>if ib b f c\/c=g.heap.size then a else m c,⟨A,G<|.inr rfl,r,f,q.below o,λc d=>⟨G<|.inl d,by have:=t c d;omega⟩,?_⟩,r,k.os,k.tape,k.output,k.size,λc d=>N ?_,λc d=>?_,λc d _=>k.block c d⟩
 .refine v.keep (λc d _=>o.block c d) o.size λc d=>?_
  by_cases e:ib b f c
  .exact .inl<|.inl e
  by_cases w:c=g.heap.size
  .exact .inr Q
  rw[N<|λy=>y.elim e w]at d;exact .inl<|.inr d
 .intro e
  obtain e|e:=e
  .have:=B c e;omega
  omega
 by_cases e:ib b f c\/c=g.heap.size
 .refine .inr ⟨G e,?_⟩;obtain e|e:=e
  .have:=t c e;omega
  omega
 exact .inl (by rw[N e];exact x c d)
def arx{a1:Nat->Nat}{i:Nat}(aA:i≠0)(e:ag)(b c d:Int)(g:Bool)(a:ae)(a6:e.size<=maxLen)(W:XV a1 a)(a7:kY (λj=>a1 j≠0) a):
  Calls prog 10 #[.string e,.agg #[.int .i64 b,.int .i64 c,.int .i64 d,.bool g]] a λh a2=>(zp e b c d=false/\h=.returned (.tuple #[.pointer none,.bool true])/\Below a.heap.size a a2)\/(zp e b c d=true/\∃R a5 u,h=.returned (.tuple #[.pointer<|some ⟨a5,0,none⟩,.bool true])/\ZZ R i a2 a5 u e (xj e b c d g) ⟨#[]⟩ false 0 (fy<|xj e b c d g)/\XX a1 R i a a2):=by
 have a8:=hd W;have p:=hd (qY e b c d g (a.alloc<|.cells #[I b,I c,I d,.bool g] 23) a6 (a7.below<|mj a _) (λj Z=>by simp only[World.size_alloc];exact Decidable.byContradiction λh=>Z<|W j Q));have D:=hd λ(l:ae)=>aly e l a6
 have s:=hd λ(l:ae)=>aqn b c d g l
 have n:=hd<|ata e;clear a7 W;go_in;go_wp21;refine p.mono ?_;rintro h o ⟨k,M⟩;have f:∀j a3,(#[I b,I c,I d,.bool g]:Array af)[j]?=some a3->o.cell? (O a.heap.size j)=some a3:=λj a3 aB=>by
  rw[ac j<|k.block a.heap.size qD];rw[yya _ a.heap.size j #[I b,I c,I d,.bool g] 23 (0,0)<|heap_alloc_last a _];exact aB
 have q:∀(l:ae),Below o.heap.size o l->l.cell? (O a.heap.size 0)=some (I b)/\l.cell? (O a.heap.size 1)=some (I c)/\l.cell? (O a.heap.size 2)=some (I d)/\l.cell? (O a.heap.size 3)=some (.bool g):=λl qa=>by
  have m:a.heap.size<o.heap.size:=by have:=k.size;simp at this;omega
  exact⟨(qa.cell (p:=O a.heap.size 0) m).trans<|f 0 _ rfl,(qa.cell (p:=O a.heap.size 1) m).trans<|f 1 _ rfl,(qa.cell (p:=O a.heap.size 2) m).trans<|f 2 _ rfl,(qa.cell (p:=O a.heap.size 3) m).trans<|f 3 _ rfl⟩
 have T:=hd q;have S:Y (Below a.heap.size a o):=(mj a _).trans (k.mono qD);have V:=hd M;have a0:=S.size;clear k f q M;have t:=hd λ(v A:Int) (M:Fk e v A)=>(n.out.unique M).1
 clear n p;obtain⟨q,n,rfl⟩|⟨q,u,aD,rfl,w⟩:=V.out
 .have E:=hd q;obtain⟨k,m⟩:∃k,(jb e).2.1=k:=⟨_,rfl⟩;obtain⟨C,f⟩:∃C,uo b c d=C:=⟨_,rfl⟩;rw[m]at t;rw[f]at s;have p:Ah e b c d=if k=0 then 5 else k:=by
   unfold Ah at n|-;rw[m,f]at n|-;split
   .rename_i h;rw[G h]at n;split at n
    .omega
    rename_i r;rw[N r]
   rfl
  have X:k=0->C=false:=λh=>by
   unfold Ah at n;rw[m,f,G h]at n;cases C
   .rfl
   simp at n
  obtain⟨a4,U⟩:∃a4,Y ((if k=0 then 5 else k)=a4):=⟨_,rfl⟩;rw[p,U.out];clear p n q V m f;go_wp21;go_call D.out;rintro h B ⟨v,A,rfl,y,f⟩;have z:=t v A y;subst z;let⟨F,H,K,L⟩:=T.out B f;have r:=hd<|S.trans<|f.mono a0;clear y f D t;go_wp21;go_call s.out;rintro h w3 ⟨rfl,f⟩;have p:=hd<|r.trans<|f.mono r.size;by_cases P:k=0
  .have a9:=X P;have x:=U.out;rw[G P]at x;subst a9 x P;go_wp21;go_ret2;exact .inl ⟨E,rfl,p⟩
  have a9:((k:Int)==0)=false:=hh;have x:=U.out;rw[N P]at x;subst x;have aC:((k:Int) !=0)=true:=bne_iff_ne.2 Q;go_wp21;go_ret2;exact .inl ⟨E,rfl,p⟩
 have C:=hd w;have E:=hd q;have m:(jb e).2.1=0/\uo b c d=true:=by
  unfold zp at q;simpa using q
 rw[m.1]at t;rw[m.2]at s;have k:1<=b/\1<=c/\1<=d:=by
  have:=m.2;unfold uo uf at this;simp at this;omega
 have x:=hd (show Ib u e (xj e b c d g) ⟨#[]⟩ false 0=[ab u 0,.string e,I b,I c,I d,.bool g,.string ⟨#[]⟩,.bool false,I 0] by
  unfold Ib xj;simp only;rw[yxx Q,yxx Q,yxx Q];rfl)
 go_wp21;go_call D.out;rintro h B ⟨v,A,rfl,y,f⟩;have z:=t v A y;have z:(0:Int)=v:=z;subst z;let⟨F,H,K,L⟩:=T.out B f;have r:=hd f;go_wp21;go_call s.out;rintro h w3 ⟨rfl,f⟩;have p:=hd<|r.trans<|f.mono r.size;let⟨F,H,K,L⟩:=T.out w3 p;go_wp2_with (refine ti 46 rfl rfl 75 (.tmp 45) rfl [ab u 0,.string e,I b,I c,I d,.bool g,.string ⟨#[]⟩,.bool false,I 0] rfl ?_;intro w4 k r m;have y:=hd r;have f:=hd m;have P:=hd k;clear r m k);go_ret2;have k:=y.out;rw[<-x.out]at k;have w:=C.out;let⟨R,m,r⟩:=ZZ.new aA a8 a0 w.1 (λj Z=>bq qD<|w.2.1 j Z) w.2.2 p k f P<|S.trans<|(p.trans<|f.mono p.size).mono a0;exact .inr ⟨E,R,_,u,rfl,m,r⟩
def av4{n:Mf}(R:fj n){z:Nat->Nat}{h:Cf}{m:Ed}(x:ZZ z a w b c s h t f d m)(a2:XV z w)(qa:gx h)(U:Dq s h.U)(F:t.size<=2000000)(T:Rest h t.size m)(g:ag)(a7:d<=(ce (nh n h f (fy h)<|Qjj t).out).size)
  (y:(ce (nh n h f (fy h)<|Qjj t).out).extract d (ce (nh n h f (fy h)<|Qjj t).out).size=g) (S:(ce (nh n h f (fy h)<|Qjj t).out).size<=1099511000000) (e:Int) (aB:-9223372036854775808<=e) (aC:e<=9223372036854775807) (M:(m.take e).2=g.extract 0 (min e.toNat g.size)):
  Calls prog 15 #[.pointer<|some ⟨b,0,none⟩,.int .i64 e] w λE W=>E=.returned (.bool true)/\∃V,ZZ V a W b c s h t f (d+(m.take e).2.size) (m.take e).1/\XX z V a w W:=by
 have o:=hd x;have j:=x.take e a2 F T;have u:=hd λ(a1:ae)=>Xq R s t f h a1 qa U F
 generalize ce (nh n h f (fy h)<|Qjj t).out=L at u y S a7;generalize((nh n h f (fy h)<|Qjj t).ck:Int)=a8 at u;have v:=hd M;have K:=hd y;have a3:g.size=L.size-d:=by rw[<-y,lw,Nat.min_self]
 have q:=x.row.xc 0;generalize(m.take e).1=a0 at j|-;generalize(m.take e).2=i at j v|-;go_in;go_wp21;go_call j;rintro E X ⟨rfl,p,k,l⟩;have A:=hd k;have B:=hd l;have C:=hd<|ss<|bp X.heap.size X;have k:=(A.up C).cs;go_wp21;go_region_held_law (XJ b s h t f) (first|exact k|exact j)
  (first
  |(go_at_call 39;(go_call u.out;rintro E Z ⟨l,rfl⟩;have r:=hd<|C.trans<|l.mono C.size;have j:=(A.up r).cs;clear l)))
 clear k j;have q:=hd<|A.up r;have D:=hd<|B.trans<|B.og.below B.nz r;have a9:=q.row.xc 8;have u8:=q.row.frozen (k:=8) (by show 8<9;omega);have aA:=K.out;have a4:i.size<=g.size:=by rw[v.out,lw];omega
 have k:Y (ZZ p a (Z.setCell (O b 8)<|I<|(d:Int)+i.size) b c s h t f (d+i.size) a0/\XX z p a w (Z.setCell (O b 8)<|I<|(d:Int)+i.size)):=by
  have:=q.put D.og 8 Q (I ((d+i.size:Nat):Int)) (inp':=t) (d':=f) (t':=d+i.size) rfl;rw[show((d+i.size:Nat):Int)=d+(i.size:Int)by omega]at this;exact⟨this.1,D.trans this.2⟩
 have aD:(d:Int)<=L.size:=Q
 have a5:(decide (e<0)=true/\decide (0<g.size)=true/\g.extract 0 0=i)\/(decide (e<0)=true/\decide (0<g.size)=false/\g=i)\/(decide (e<0)=false/\decide (e<(g.size:Int))=true/\g.extract 0 e.toNat=i)\/(decide (e<0)=false/\decide (e<(g.size:Int))=false/\g=i):=by
  have P:∀H,g.size<=H->g.extract 0 H=g:=λH a6=>by
   apply va;rw[yyg];exact Array.extract_eq_self_of_le a6
  have o:=v.out;by_cases l:e<0
  .rw[show min e.toNat g.size=0 from Q]at o;by_cases j:0<g.size
   .exact .inl ⟨decide_eq_true l,decide_eq_true j,o.symm⟩
   exact .inr<|.inl ⟨decide_eq_true l,wu j,by rw[o,P 0 Q]⟩
  by_cases j:e<(g.size:Int)
  .exact .inr<|.inr<|.inl ⟨wu l,decide_eq_true j,by rw[o,yi Q]⟩
  exact .inr<|.inr<|.inr ⟨wu l,wu j,by rw[o,Nat.min_eq_right Q,P _ ah]⟩
 have P:d+i.size<=1099511000000:=Q
 have H:g.size<=1099511000000:=Q
 clear v K q r u a3 a4 S F D;obtain⟨l,j,o⟩|⟨l,j,o⟩|⟨l,j,o⟩|⟨l,j,o⟩:=a5
 .have q:i.size=0:=by rw[<-o,lw];omega
  rw[show(d:Int)+i.size=(d:Int)by omega]at k;have r:=hd (show i.toList=[] from yyp (by rw[yyn];exact q));clear q;go_wp21;go_ret;exact⟨by simp[r.out],p,k.1,k.2⟩
 .subst o;go_wp21;go_ret;exact⟨qD,p,k.1,k.2⟩
 .have q:e.toNat<=g.size:=by have:=zyb j;omega
  have r:((e.toNat:Nat):Int)=e:=by have:=of_decide_eq_false l;omega
  go_wp21;go_ret;exact⟨qD,p,k.1,k.2⟩
 subst o;go_wp21;go_ret;exact⟨qD,p,k.1,k.2⟩
section
structure XY(mf:Mf)(s:ag)(cf:Cf)(inp:ag)(d:Bool)(t:Nat)(E:Ed):Prop where
 ok:gx cf
 rd:Dq s cf.U
 rs:Rest cf inp.size E
 tw:∃p,p.length=t/\Sf p (nh mf cf d (fy cf)<|Qjj inp) E
section
variable {mf:Mf} {s:ag} {cf:Cf} {inp:ag} {d:Bool} {t:Nat} {E:Ed}
def kW(b:gx cf)(c:inp.size<=2000000)(d:Bool):Rest cf inp.size (nh mf cf d (fy cf)<|Qjj inp):=by
 have a:=acj (mf:=mf) b (Qjj inp) 0 (fy cf) (by rw[jn];omega)<|Ts b;rw[qo,jn]at a;unfold nh;split
 .exact ano b c a
 exact a
def XY.off(a:XY mf s cf inp true t E)(c:inp.size<=2000000):E.ru=false:=by
 let⟨e,_,b⟩:=a.tw;rw[b.eq];exact QP mf cf _
def XY.st(a:XY mf s cf inp d t E):(nh mf cf d (fy cf)<|Qjj inp).ck=E.ck:=by
 let⟨c,_,b⟩:=a.tw;rw[b.eq];rfl
def XY.ot(b:XY mf s cf inp d t E)(a:inp.size<=2000000):(ce (nh mf cf d (fy cf)<|Qjj inp).out).size<=1099511000000:=by
 rw[yx];exact Uz (kW b.ok a d).1 a
def XY.ry(a:XY mf s cf inp d t E):(ce (nh mf cf d (fy cf)<|Qjj inp).out).size=t+E.ud:=by
 obtain⟨c,rfl,b⟩:=a.tw;rw[yx,b.out,ga,List.length_drop];rfl
def XY.ly(a:XY mf s cf inp d t E){b:ag}(g:inp.size+b.size<=2000000):XY mf s cf (if d=true then inp else inp++b) d t (E.ly mf cf<|Qjj b):=by
 cases d
 .let⟨c,f,h⟩:=a.tw;have e:=acj (mf:=mf) a.ok (Qjj b) inp.size E (by rw[jn];exact g) a.rs;rw[jn,<-uh]at e;refine⟨a.ok,a.rd,e,c,f,?_⟩;have:=h.pu<|age mf cf<|Qjj b;show Sf c ((fy cf).ly mf cf<|Qjj<|inp++b) _
  rw[ZW,an2];exact this
 rw[Ot _ _<|a.off Q];exact a
def XY.fin(a:XY mf s cf inp d t E)(b:inp.size<=2000000):XY mf s cf inp true t (E.rh mf cf):=by
 cases d
 .let⟨f,c,e⟩:=a.tw;exact⟨a.ok,a.rd,ano a.ok b a.rs,f,c,e.pu<|ass mf cf⟩
 have:=a.off b;rw[Ed.rh,N<|by simp[this]];exact a
def XY.take(a:XY mf s cf inp d t E)(b:Int):XY mf s cf inp d (t+(E.take b).2.size) (E.take b).1:=by
 obtain⟨e,rfl,c⟩:=a.tw;exact⟨a.ok,a.rd,ZV a.rs b,_,by rw[ga,jn],c.take b⟩
def XY.left(a:XY mf s cf inp d t E)(b:Int):t<=(ce (nh mf cf d (fy cf)<|Qjj inp).out).size/\(ce (nh mf cf d (fy cf)<|Qjj inp).out).extract t (ce (nh mf cf d (fy cf)<|Qjj inp).out).size=ce (E.out.drop E.ca)/\(E.take b).2=(ce<|E.out.drop E.ca).extract 0 (min b.toNat (ce<|E.out.drop E.ca).size):=by
 refine⟨by rw[a.ry];omega,?_,?_⟩
 .obtain⟨e,rfl,c⟩:=a.tw;apply ZY;rw[c.out,yx];simp[Qjj,ce,yyg];exact Hh qD
 rw[Yr];have:(ce<|E.out.drop E.ca).size=E.ud:=by rw[yx,List.length_drop];rfl
 rw[this];apply ZY;rw[ZP];split<;>simp[ahs,Ed.vr]
end
end
def dI(mf:Mf)(pt s:ag):Option (List<|Int×Int)×Int:=if 40<pt.size\/80<s.size then(none,1)else if uu pt=none then(mf pt s 0,0)else(none,2)
def eE{c:Option (List<|Int×Int)}(d:Hu w c x a)(h:b<=a):Hu w c x b:=by
 cases c
 .exact d
 let⟨i,e,f,g⟩:=d;exact⟨i,e,bq h f,g⟩
def dU{c:Mf}(s:fj c)(a b:ag)(j:ae)(P:a.size<=maxLen)(qa:b.size<=maxLen):
  Calls prog 22 #[.string a,.string b] j λd w=>∃v,d=.returned (.tuple #[v,.int .i64 (dI c a b).2])/\Hu w (dI c a b).1 v j.heap.size/\Below j.heap.size j w/\((dI c a b).2=0->ya a/\eo a<=9):=by
 have z:=J s;unfold maxLen at P qa;by_cases p:40<a.size\/80<b.size
 .have f:Y (dI c a b=(none,1)):=G p;by_cases e:40<a.size
  .go_in;go_wp21;go_ret2;rw[f.out];exact⟨_,rfl,rfl,bp _ _,λd=>by cases d⟩
  have g:80<b.size:=Q
  go_in;go_wp21;go_ret2;rw[f.out];exact⟨_,rfl,rfl,bp _ _,λd=>by cases d⟩
 have e:dI c a b=if uu a=none then(c a b 0,0)else(none,2):=N p
 have f:=J e;have m:a.size<=40:=Q
 have L:b.size<=80:=Q
 go_in;go_wp21;go_call afw;rintro d U ⟨E,R,H,S,K,X,W,rfl,e,i⟩;have n:=J i;have u:=i.size;obtain⟨rfl,g,e⟩|⟨rfl,V,rfl,_,g⟩:=e
 .have A:=J<|jz.pt e m;have y:=J (show ya a/\eo a<=9 from by let⟨_,M,e⟩:=e;let⟨_,_,_,_,D,F,_⟩:=e m;exact⟨⟨ajs g,m,D,F⟩,M⟩);have k:Y (dI c a b=(c a b 0,0)):=f.trans<|G g;go_wp21;have l:=J<|mj U<|.cells #[.slice E R H,I S,I K] 88;have h:=Vo a b _ _ _ _ (A.below l) L;go_call h;rintro d w3 ⟨T,rfl,r,q⟩;have o:=J<|n.trans<|(l.trans<|q.mono l.size).mono u;have B:=J r;have t:=o.size;go_wp21;have h:=Gg c z a b T 0 w3 B;go_call h;rintro d w4 ⟨q,Z,rfl,r⟩;have x:=J<|o.trans<|q.mono t;have C:=J r;go_wp21;go_ret2;rw[k.out];exact⟨_,rfl,eE C t,x,λ_=>y⟩
 have k:Y (dI c a b=(none,2)):=f.trans (N<|by rw[g];intro h;cases h);go_wp21;go_ret2;rw[k.out];exact⟨_,rfl,rfl,n.alloc u _,λd=>by cases d⟩
def bB(w:ae)(r:Option (List<|Int×Int))(u:af):Prop:=
 match r with
 |none=>u=.slice none 0 0
 |some sp=>∃ob cap,u= aa ob sp.length cap/\rx w ob sp
def dA{c:Mf}(v:fj c)(a b:ag)(o:ae)(w:a.size<=maxLen)(R:b.size<=maxLen)(n:(dI c a b).2=0->ya a):
  Calls prog 95 #[.string a,.string b] o λg B=>∃A,g=.returned (.tuple #[A,.int .i64 (dI c a b).2])/\bB B (dI c a b).1 A/\Below o.heap.size o B:=by
 have E:=J v;have H:=J w;unfold maxLen at w R;by_cases t:40<a.size\/80<b.size
 .have e:Y (dI c a b=(none,1)):=G t;by_cases d:40<a.size
  .go_in;go_wp21;go_ret2;rw[e.out];exact⟨_,rfl,rfl,bp _ _⟩
  have f:80<b.size:=Q
  go_in;go_wp21;go_ret2;rw[e.out];exact⟨_,rfl,rfl,bp _ _⟩
 have e:Y (dI c a b=if uu a=none then(c a b 0,0)else(none,2)):=N t;have s:=J n;have P:a.size<=40:=Q
 have qa:b.size<=80:=Q
 go_in;go_wp21;refine(dW a _ H).mono ?_;rintro g W ⟨rfl,i⟩;have p:=J i;have S:=i.size;have m:dS a=match uu a with|none=>(0,0)|some y=>(2,(y:Int)):=N
 rcases hf:uu a with _|y
 all_goals rw[m,hf]
 rotate_left
 .have d:Y (dI c a b=(none,2)):=e.trans (N<|by rw[hf];intro f;cases f);go_wp21;go_ret2;rw[d.out];exact⟨_,rfl,rfl,p⟩
 have d:Y (dI c a b=(c a b 0,0)):=e.trans<|G hf;have l:=J (s<|by rw[d.out]);go_wp21;refine(apd a P l.w _).mono ?_;rintro g j ⟨z,T,rfl,h,f⟩;have K:=J (show wa j j.heap.size (ab z 0) a from⟨z,T,rfl,h j λ_ _ _=>rfl⟩);have q:=J<|p.trans<|f.mono S;have x:=q.size;go_wp21;refine(aeg a b _ _ _ l K ah qa).mono ?_;rintro g w3 ⟨M,rfl,h,f⟩;have D:=J h;have C:=J<|q.trans<|f.mono x;have u:=Ub E a b j.heap.size M 0 true w3 l D Q;go_wp21;go_call u;rintro g w4 ⟨f,_,h⟩;have r:=J<|C.trans<|f.mono x;have k:Oh c a b 0 true=c a b 0:=rfl;rw[k]at h;rcases f:c a b 0 with _|V
 .have k:Y (dI c a b=(none,0)):=by rw[Y,d.out,f]
  rw[f]at h;obtain rfl:=h;go_wp21;go_ret2;rw[k.out];exact⟨_,rfl,rfl,r⟩
 have k:Y (dI c a b=(some V,0)):=by rw[Y,d.out,f]
 rw[f]at h;obtain⟨U,L,rfl,_,u⟩:=h;have F:=J u;go_wp21;go_ret2;rw[k.out];exact⟨_,rfl,⟨U,L,rfl,F⟩,r⟩
def bC(w:ae)(v u:af):Prop:=∃ao ao' n c c',v=.slice ao n c/\u=.slice ao' n c'/\n<=1000/\∀k,k<n->∃g g' x y,ao=some (O g 0)/\ao'=some (O g' 0)/\w.cell? (O g<|k*2)=some (I x)/\w.cell? (O g<|k*2+1)=some (I y)/\w.cell? (O g'<|k*2)=some (I x)/\w.cell? (O g'<|k*2+1)=some (I y)
def dX(b:bC w x y):Calls prog 96 #[x,y] w λf h=>f=.returned (.bool true)/\Below w.heap.size w h:=by
 obtain⟨k,l,c,o,p,rfl,rfl,t,b⟩:=b;have e:=J b;go_in;go_wp21;go_loopw [5] (λx wr=>∃a d:Nat,a<=c/\x=I a/\wr=w.drewN d) (λx _=>c-(intOf x).toNat)
 .exact⟨0,0,ey _,rfl,rfl⟩
 obtain⟨a,d,s,rfl,rfl⟩:=hrel;by_cases g:a<c
 .obtain⟨q,r,z,A,rfl,rfl,i,j,m,n⟩:=e a g;have u:(0:Int)<=a:=Q
  have v:(a:Int)<c:=Q
  go_wp21;go_quiet (fail);go_wp21;go_roundw
  .exact⟨a+1,_,Q,qJ,rfl⟩
  simp[intOf];omega
 go_wp21;go_ret;exact⟨rfl,⟨rfl,rfl,rfl,ah,λ_ _=>rfl⟩⟩
def dZ(w:ae)(lo:Nat)(v:af):Prop:=∃ao n sp,v=.slice ao n n/\n<=10/\sp.length=n/\(ao=none->n=0)/\∀b,ao=some b->∃g,b=(O g 0)/\lo<=g/\g<w.heap.size/\rx w g sp
def dG{f:Mf}(E:fj f)(d:(dI f s t).2=0->ya s/\eo s<=9)(h:Hu w (dI f s t).1 x a)(k:Below w.heap.size w u)(i:bB u (dI f s t).1 y):dZ u a x/\bC u x y/\((x=.slice none 0 0/\y=.slice none 0 0)\/∃M H j P K B,x=.slice (some M) H j/\y=.slice (some P) K B):=by
 rcases hr:(dI f s t).1 with _|b
 .rw[hr]at h i;obtain rfl:=h;obtain rfl:=i;exact⟨⟨none,0,[],rfl,Q,rfl,λ_=>rfl,λv e=>by cases e⟩,⟨none,none,0,0,0,rfl,rfl,Q,λc d=>Q⟩,.inl ⟨rfl,rfl⟩⟩
 rw[hr]at h i;obtain⟨g,rfl,D,n⟩:=h;obtain⟨C,j,rfl,F⟩:=i;have l:b.length<=10/\0<b.length:=by
  unfold dI at hr d;split at hr
  .cases hr
  rename_i m;rw[N m]at d;split at hr
  .rename_i o;rw[G o]at d;obtain⟨q,r,j,rfl,_,p,_⟩:=E.sj hr;have:=(d rfl).2;simp;omega
  cases hr
 have L:b[0]?=some b[0]:=dy l.2;have m:g<w.heap.size:=dw w _ (n 0 b[0].1 b[0].2 L).1;have o:=n.cw<|k.block g m;refine⟨⟨_,_,b,rfl,l.1,rfl,(λe=>by cases e),λv e=>?_⟩,⟨_,_,_,_,_,rfl,rfl,Q,λc d=>?_⟩,.inr ⟨_,_,_,_,_,_,rfl,rfl⟩⟩
 .cases e
  exact⟨g,rfl,D,ew m k.size,o⟩
 have p:b[c]?=some b[c]:=dy d;let⟨q,r,_⟩:=o c b[c].1 b[c].2 p;let⟨z,A,_⟩:=F c b[c].1 b[c].2 p;exact⟨g,C,_,_,rfl,rfl,q,r,z,A⟩
def dF{g:Mf}(v:fj g)(c d:ag)(h:ae)(w:c.size<=maxLen)(x:d.size<=maxLen):
  Calls prog 58 #[.string c,.string d] h λa y=>∃o,a=.returned (.tuple #[o,.bool true])/\dZ y h.heap.size o/\Below h.heap.size h y:=by
 have n:=J v;have q:=J w;have r:=J x;have u:(dI g c d).2=0\/(dI g c d).2=1\/(dI g c d).2=2:=by unfold dI;split;exact .inr<|.inl rfl;split;exact .inl rfl;exact .inr<|.inr rfl
 go_in;go_wp21;refine(dU n c d h q r).mono ?_;rintro a L ⟨o,rfl,j,e,i⟩;have m:=J j;have b:=J e;have f:=J i;go_wp21;refine(dA n c d L q r λa=>(f a).1).mono ?_;rintro a U ⟨T,rfl,k,l⟩;let⟨s,i,e⟩:=dG n f m l k;have z:=J s;have A:=J i;have p:=J<|b.trans<|l.mono b.size;generalize(dI g c d).2=P at u;have R:∀(b:ae),(binOp .eql 41 (.slice none 0 0)<|.slice none 0 0).run prog b=.ok (.bool true) b:=λb=>Lib.run_eql_slice_nil b _ _ none 0 0 0 0 underlying41
 have S:∀(b:ae)(l:Addr)(f e:Nat),(binOp .eql 41 (.slice (some l) f e)<|.slice none 0 0).run prog b=.ok (.bool false) b:=λb l f e=>Lib.run_eql_slice_nil b _ _ (some l) f e 0 0 underlying41
 obtain⟨rfl,rfl⟩|⟨l,f,e,V,qa,M,rfl,rfl⟩:=e
 all_goals
  obtain rfl|rfl|rfl:=u
  all_goals
   go_wp21;refine(dX A).mono ?_;rintro a w3 ⟨rfl,s⟩;have m:=J s;go_wp21;go_ret2;refine⟨_,rfl,?_,p.trans<|m.mono p.size⟩;let⟨B,f,K,a,j,k,E,F⟩:=z;exact⟨B,f,K,a,j,k,E,λi H=>by let⟨s,a,C,t,D⟩:=F i H;exact⟨s,a,C,ew t m.size,D.cw<|m.block s t⟩⟩
def dV(j:S.size<=maxLen):Calls prog 23 #[.string S] W λd l=>d=.returned (.tuple #[.int .i64 (dS S).1,.int .i64 (dS S).2])/\Below W.heap.size W l:=by
 unfold maxLen at j;by_cases e:40<S.size
 .have a:Y (dS S=(1,0)):=G e;go_in;go_wp21;go_ret2;rw[a.out];exact⟨rfl,bp _ _⟩
 have a:Y (dS S=match uu S with|none=>(0,0)|some f=>(2,(f:Int))):=N e;go_in;go_wp21;go_call afw;rintro d t ⟨m,p,n,s,o,r,q,rfl,i,b⟩;have g:=J b;have k:=b.size;obtain⟨rfl,c,_⟩|⟨rfl,f,rfl,_,c⟩:=i
 all_goals
  have h:=J (a.trans<|by rw[c]);go_wp21;go_ret2;rw[h.out];exact⟨rfl,g.alloc k _⟩
def dT(d:S.size<=maxLen):Calls prog 60 #[.string S] W λb f=>b=.returned (.bool true)/\Below W.heap.size W f:=by
 go_in;go_wp21;go_call dV;rintro b g ⟨rfl,a⟩;have c:=J a;go_wp21;go_call dW;rintro b h ⟨rfl,a⟩;have e:=J<|c.trans<|a.mono c.size;go_wp21;go_ret;exact⟨qD,e⟩
def eH(h:S.size<=maxLen):
  Calls prog 24 #[.string S] W λe i=>∃a b:Int,e=.returned (.tuple #[.int .i64 a,.int .i64 b])/\Fk S a b/\Below W.heap.size W i:=by
 have c:=J<|ata S;have d:=atb S W h;go_in;go_wp21;go_call d;rintro e k ⟨j,rfl,f,_⟩;have g:=J f;generalize((jb S).2.1:Int)=a at c|-;generalize(jb S).2.2=b at c|-;go_wp21;go_ret2;exact⟨a,b,rfl,c,g⟩
def eI(e:S.size<=maxLen):
  Calls prog 61 #[.string S] W λc h=>c=.returned (.bool true)/\Below W.heap.size W h:=by
 go_in;go_wp21;go_call eH;rintro c i ⟨j,l,rfl,a,b⟩;have f:=J a;have d:=J b;go_wp21;go_call aly;rintro c n ⟨k,m,rfl,a,b⟩;obtain⟨rfl,rfl⟩:=f.unique a;have g:=J<|d.trans<|b.mono d.size;go_wp21;go_ret;exact⟨rfl,g⟩
def eA(o:Nat->Nat)(w:ae)(v:af)(x:Int):Prop:=∃ao n c,v=.slice ao n c/\n<=13/\∀k,k<n->∃g,ao=some (O g 0)/\o g=0/\w.cell? (O g<|k*2)=some (I x)/\w.cell? (O g<|k*2+1)=some (I 7)
def dC{l:Nat->Nat}(c:eA l w x p):Calls prog 63 #[x,.agg #[.int .i64 p,.int .i64 7]] w λj m=>j=.returned (.bool true)/\Below w.heap.size w m:=by
 obtain⟨n,d,r,rfl,u,c⟩:=c;have i:=J c;go_in;go_wp21;have b:=J<|mj w<|.cells #[I p,I 7] 48;go_loopw [5] (λx wr=>∃a h:Nat,a<=d/\x=I a/\wr=(w.alloc<|.cells #[I p,I 7] 48).drewN h) (λx _=>d-(intOf x).toNat)
 .exact⟨0,0,ey _,rfl,rfl⟩
 obtain⟨a,h,t,rfl,rfl⟩:=hrel;by_cases k:a<d
 .obtain⟨g,rfl,_,e,f⟩:=i a k
  have o:=cell_later b e;have q:=cell_later b f;have v:(0:Int)<=a:=Q
  have y:(a:Int)<d:=Q
  go_wp21;go_quiet (fail);go_wp21;go_roundw
  .exact⟨a+1,_,Q,qJ,rfl⟩
  simp[intOf];omega
 go_wp21;go_ret;exact⟨rfl,⟨b.os,b.tape,b.output,b.size,b.block⟩⟩
section
structure XP where
 bb:Nat
 bl:Nat
 s:ag
 cf:Cf
 inp:ag
 d:Bool
 t:Nat
 E:Ed
def XP.lv(r:XP)(mf:Mf)(o:Nat->Nat)(i:Nat)(w:ae)(K:Nat):Prop:=ZZ o i w r.bb r.bl r.s r.cf r.inp r.d r.t r.E/\XY mf r.s r.cf r.inp r.d r.t r.E/\r.inp.size<=K
def ZJ(rs:List XP):List af:=rs.map λr=> ab r.bb 0
def eC(o:Nat->Nat)(w:ae)(lo c:Nat)(v:af)(xs:List af):Prop:=w.ownsRow lo (if c=0 then 24 else 41) 1 v xs.length xs/\∀k,v.ownBlock=some k->o k=c+2
def dP(c k:Nat):Int:=-2-((k/(2*c-1):Nat):Int)
structure ZQ(mf:Mf)(o:Nat->Nat)(w:ae)(lo wb:Nat)(vs:List af)(K:Nat)(rs:List XP)(X:List (List af)):Prop where
 og:XV o w
 hi:∀k,o k≠0->lo<=k
 wl:wb<w.heap.size
 wo:o wb=1
 tb:kY (λk=>o k≠0) w
 row:bd w wb vs
 oo:∀(c:Nat)(v:af),vs[c]?=some v->∃xs,X[c]?=some xs/\eC o w lo c v xs
 ed:∀(i:Nat)(r:XP),rs[i]?=some r->r.lv mf o (i+5) w K
 fl:∀(c k:Nat)(xs:List af)(v:af),c≠0->X[c]?=some xs->xs[k]?=some v->eA o w v (dP c k)
section
variable {mf:Mf} {o o':Nat->Nat} {w w':ae} {lo wb i c:Nat} {vs:List af} {K K':Nat} {rs:List XP} {X:List (List af)} {v v':af} {xs:List af} {x:Int}
def XX.tw(b:XX o o' i w w')(g:kY (λa=>o a≠0) w):kY (λa=>o' a≠0) w':=
 Tw.keep g (λa d h=>b.block a d λe=>h<|.inr<|by show o a≠0;rw[e];exact b.nz) b.size λa d=>by
  by_cases f:a<w.heap.size
  .obtain e|e:=d
   .have:=b.size;omega
   exact .inl<|.inr<|by show o a≠0;rw[<-b.old a f];exact e
  exact .inr Q
def eC.nn(b:eC o w lo c v xs)(e:XX o o' i w w')(f:i≠c+2):eC o' w' lo c v xs:=
 ⟨da b.1 λa d=>e.block a (b.1.lt a d).2<|by rw[b.2 a d];omega,λa d=>by rw[e.old a (b.1.lt a d).2];exact b.2 a d⟩
def eA.nn(m:eA o w v x)(e:XX o o' i w w'):eA o' w' v x:=by
 let⟨k,r,c,b,n,p⟩:=m;refine⟨k,r,c,b,n,λd q=>?_⟩;let⟨a,b,f,g,l⟩:=p d q;have j:a<w.heap.size:=dw w _ g;have h:=e.block a j (by rw[f];exact e.nz.symm);exact⟨a,b,by rw[e.old a j];exact f,(ac (d*2) h).trans g,(ac (d*2+1) h).trans l⟩
def XP.lv.nn{d:XP}(b:d.lv mf o a w K)(g:XX o o' i w w')(f:a≠i)(e:K<=K'):d.lv mf o' a w' K':=⟨b.1.oth g f,b.2.1,bq b.2.2 e⟩
def ZQ.fr(b:ZQ mf o w lo wb vs K rs X)(a:XX o o' i w w'):Below lo w w':=
 ⟨a.os,a.tape,a.output,a.size,λd f=>a.block d (by have:=b.wl;have:=b.hi wb (by rw[b.wo];omega);omega) λe=>by have:=b.hi d (by rw[e];exact a.nz);omega⟩
def XX.hi(f:XX o o' i w w')(e:∀a,o a≠0->lo<=a)(g:lo<=w.heap.size):∀a,o' a≠0->lo<=a:=λa b=>by
 by_cases d:a<w.heap.size
 .rw[f.old a d]at b;exact e a b
 omega
def ZQ.ll(a:ZQ mf o w lo wb vs K rs X):lo<=w.heap.size:=by have:=a.wl;have:=a.hi wb (by rw[a.wo];omega);omega
def ZQ.ac(a:ZQ mf o w lo wb vs K rs X)(b:XX o o' i w w')(q:5<=i){h:List XP}(m:∀(f:Nat)(g:XP),h[f]?=some g->g.lv mf o' (f+5) w' K')(d:vs.length=3):ZQ mf o' w' lo wb vs K' h X:=
 ⟨b.og,b.hi a.hi a.ll,ew a.wl b.size,by rw[b.old wb a.wl];exact a.wo,b.tw a.tb,a.row.cw<|b.block wb a.wl<|by rw[a.wo];omega,λc v e=>by
  let⟨xs,j,n⟩:=a.oo c v e;have:=(jy.1 e).1;exact⟨xs,j,n.nn b Q⟩,m,λc p xs v k l d=>(a.fl c p xs v k l d).nn b⟩
def ZQ.nw(d:ZQ mf o w lo wb vs K rs X){p g:XP}(m:rs[i]?=some p)(f:XX o o' (i+5) w w')(j:K<=K')(k:g.lv mf o' (i+5) w' K')(h:vs.length=3):ZQ mf o' w' lo wb vs K' (rs.set i g) X:=by
 have l:=(jy.1 m).1;refine d.ac f Q (λe n a=>?_) h;by_cases b:i=e
 .subst b;rw[zv l]at a;cases a
  exact k
 rw[xe b]at a;exact(d.ed e n a).nn f Q j
def ZQ.oth(a:ZQ mf o w lo wb vs K rs X)(d:XX o o' (rs.length+5) w w')(f:K<=K')(e:vs.length=3):ZQ mf o' w' lo wb vs K' rs X:=
 a.ac d Q (λg h b=>(a.ed g h b).nn d (by have:=(jy.1 b).1;omega) f) e
def ZQ.up(a:ZQ mf o w lo wb vs K rs X)(e:Below w.heap.size w w')(d:K<=K')(b:vs.length=3):ZQ mf o w' lo wb vs K' rs X:=a.oth (a.og.below Q e) d b
def ZQ.ad(b:ZQ mf o w lo wb vs K rs X)(U:c<3)(F:vs[c]?=some v)(r:X[c]?=some xs)(j:Gn w u v v')(A:u.ownsRow lo (if c=0 then 24 else 41) 1 v' (xs.length+1) (xs++[y]))(M:c≠0->eA o w y (dP c xs.length)):
  bd u wb vs/\∃o',ZQ mf o' (u.setCell (O wb c) v') lo wb (vs.set c v') K rs (X.set c<|xs++[y])/\Below lo w (u.setCell (O wb c) v')/\(∀h z,eA o w h z->eA o' (u.setCell (O wb c) v') h z)/\∀p:XP,p.lv mf o (rs.length+5) w K->p.lv mf o' (rs.length+5) (u.setCell (O wb c) v') K:=by
 let⟨S,e,l⟩:=b.oo c v F;rw[r]at e;cases e
 have f:XX o (λa=>if v'.ownBlock=some a then c+2 else o a) (c+2) w u:=by
  refine⟨Q,j.os,j.tape,j.output,j.size,λa g=>?_,λa g=>?_,λa g d=>j.block a g λe=>d<|l.2 a e⟩
  .by_cases e:v'.ownBlock=some a
   .rw[G e];obtain e|e:=j.H a e
    .exact(l.2 a e).symm
    omega
   rw[N e]
  by_cases e:v'.ownBlock=some a
  .exact .inr ⟨G e,(A.lt a e).2⟩
  exact .inl (by rw[N e];exact b.og a g)
 have H:=b.row.cw (f.block wb b.wl<|by rw[b.wo];omega);have D:(λa=>if v'.ownBlock=some a then c+2 else o a) wb=1:=(f.old wb b.wl).trans b.wo;have E:bf wb u (u.setCell (O wb c) v'):=(bf.refl _ _).setCell _ _;have d:=f.og.bj (i:=1) Q E D;have C:=(jy.1 F).1;refine⟨H,_,⟨d.og,f.hi b.hi b.ll,ew b.wl<|bq f.size d.size,D,d.tw<|f.tw b.tb,H.put c C v',λn h m=>?_,λP p l=>((b.ed P p l).nn f Q ah).nn d Q ah,λn a B h t q k=>?_⟩,(b.fr f).trans ⟨d.os,d.tape,d.output,d.size,λa g=>E.block a (by have:=b.hi wb (by rw[b.wo];omega);omega)⟩,λh z m=>(m.nn f).nn d,λp l=>(l.nn f Q ah).nn d Q ah⟩
 .by_cases e:c=n
  .subst e;rw[zv C]at m;cases m
   have s:∀a,v'.ownBlock=some a->(λa=>if v'.ownBlock=some a then c+2 else o a) a=c+2:=λa g=>G g
   exact⟨_,zv (jy.1 r).1,da (by rw[ga];exact A) λa g=>d.block a (A.lt a g).2 (by have:(if v'.ownBlock=some a then c+2 else o a)=c+2:=G g;omega),s⟩
  rw[xe e]at m|-;let⟨B,L,s⟩:=b.oo n h m;exact⟨B,L,(s.nn f Q).nn d Q⟩
 by_cases e:c=n
 .subst e;rw[zv (jy.1 r).1]at q;cases q
  by_cases e:a<xs.length
  .rw[oq e]at k;exact((b.fl c a xs h t r k).nn f).nn d
  have s:=(jy.1 k).1;obtain rfl:a=xs.length:=by simp at s;omega
  simp at k;subst k;exact((M t).nn f).nn d
 rw[xe e]at q;exact((b.fl n a B h t q k).nn f).nn d
def XZ(mf:Mf)(lo wb K n m:Nat)(w w':ae):Prop:=∃o rs ev lv gv ls gs,ZQ mf o w' lo wb [ev,lv,gv] K rs [ZJ rs,ls,gs]/\rs.length=n/\ls.length=m/\gs.length=3*m/\Below lo w w'
end
end
section
section
variable {mf:Mf} {o o':Nat->Nat} {w w' w0:ae} {lo wb i:Nat} {ev lv gv:af} {K K':Nat} {rs:List XP} {ls gs:List af}
def ZQ.lf(c:ZQ mf o w lo wb [ev,lv,gv] K rs [ZJ rs,ls,gs])(k:gs.length=3*ls.length)(g:Below lo w0 w){e r':XP}(a:rs[i]?=some e)(d:XX o o' (i+5) w w')(h:K<=K')(l:r'.lv mf o' (i+5) w' K')(j:r'.bb=e.bb):XZ mf lo wb K' rs.length ls.length w0 w':=by
 refine⟨o',rs.set i r',ev,lv,gv,ls,gs,?_,tj,rfl,k,g.trans<|c.fr d⟩;have f:ZJ (rs.set i r')=ZJ rs:=by
  unfold ZJ;rw[List.map_set];refine yyy λm=>?_
  by_cases b:i=m
  .subst b;rw[zv<|by simpa using(jy.1 a).1,zyc,a,j];rfl
  rw[xe b]
 rw[f];exact c.nw a d h l rfl
def ZQ.lb(a:ZQ mf o w lo wb [ev,lv,gv] K rs [ZJ rs,ls,gs])(e:gs.length=3*ls.length)(c:Below lo w0 w)(d:K<=K')(b:Below w.heap.size w w'):XZ mf lo wb K' rs.length ls.length w0 w':=
 ⟨o,rs,ev,lv,gv,ls,gs,a.up b d rfl,rfl,rfl,e,c.trans<|b.mono a.ll⟩
end
def eF(a:Nat)(w:ae)(l:-9223372036854775808<=Z)(m:Z<=9223372036854775807)(n:0<a)(p:a<=2000000):
  Calls prog 98 #[.int .i64 Z,.int .i64 a] w λh w'=>∃b:Nat,b<a/\h=.returned (.int .i64 b)/\w'=w:=by
 have g:∀c:Int,0<=c->∃b:Nat,b<a/\Int.tmod c (a:Int)=b:=λc j=>⟨(c%a).toNat,by have:=Int.emod_lt_of_pos c (Q:(0:Int)<a);have:=Int.emod_nonneg c (Q:(a:Int)≠0);omega,by rw[Int.tmod_eq_emod_of_nonneg j];have:=Int.emod_nonneg c (Q:(a:Int)≠0);omega⟩
 by_cases f:Z<0
 .have k:decide (Z<0)=true:=qK f
  let⟨b,d,e⟩:=g (-(Z+1)) Q;go_in;go_wp21;go_ret;exact⟨b,d,by simp[e],rfl⟩
 let⟨b,d,e⟩:=g Z Q;go_in;go_wp21;go_ret;exact⟨b,d,by simp[e],rfl⟩
@[reducible] def qW (kd A B:Int) (s t:ag) (a b c:Int) (q:Bool):af:=.agg #[I kd,I A,I B,.string s,.string t,I a,I b,I c,.bool q]
def QY{mf:Mf}(Z:fj mf){o:Nat->Nat}{w:ae}{lo wb:Nat}{ev lv gv:af}{K:Nat}{rs:List XP}{ls gs:List af}(M:ZQ mf o w lo wb [ev,lv,gv] K rs [ZJ rs,ls,gs])(C:gs.length=3*ls.length)(f h j:Int)(d v:ag)(q r s:Int)(u:Bool)(P:2<=f)(a9:f<=6)(W:-9223372036854775808<=h/\h<=9223372036854775807)(X:-9223372036854775808<=j/\j<=9223372036854775807)(a0:0<rs.length)(a5:rs.length<=2000000)(a7:K+d.size<=2000000):
  Calls prog 62 #[.pointer<|some ⟨wb,0,none⟩,qW f h j d v q r s u] w λt w'=>t=.returned (.bool true)/\XZ mf lo wb (K+d.size) rs.length ls.length w w':=by
 have y:=J Z;have R:=J<|ss<|mj w<|.cells #[I f,I h,I j,.string d,.string v,I q,I r,I s,.bool u] 85;have c:=J<|M.up R ah rfl;have x:=J<|R.mono M.ll;have a1:=eF h rs.length (w.alloc<|.cells #[I f,I h,I j,.string d,.string v,I q,I r,I s,.bool u] 85).drew W.1 W.2 a0 a5;let⟨_,a6,n,_⟩:=c.oo 0 _ rfl;cases a6
 have b:World.ownsRow _ lo 24 1 ev (ZJ rs).length (ZJ rs):=n;rw[show(ZJ rs).length=rs.length from yxr ..]at b;let⟨B,S,a3,a8⟩:=b.form a0;have p:=c.row.xc 0;subst a3;obtain⟨l,g⟩:∃l:Nat->Nat,∀(a:Nat)(D:XP),rs[a]?=some D->D.bb=l a:=⟨λa=>(rs[a]?.map XP.bb).getD 0,λa D e=>by simp[e]⟩;have k:∀a,a<rs.length->(w.alloc<|.cells #[I f,I h,I j,.string d,.string v,I q,I r,I s,.bool u] 85).drew.cell? (O B a)=some (ab (l a) 0):=λa P=>by
  rw[b.cellAt a Q,<-g a rs[a]<|dy P];rw[ZJ,zyc,dy P];rfl
 have m:=J g;clear g n b;clear M Z;unfold qW;go_in;go_wp21;have V:(w.alloc<|.cells #[I f,I h,I j,.string d,.string v,I q,I r,I s,.bool u] 85).drew.cell? (O wb 0)=some (aa B rs.length S)/\(w.alloc<|.cells #[I f,I h,I j,.string d,.string v,I q,I r,I s,.bool u] 85).drew.cell? (O w.heap.size 1)=some (I h)/\∀a,a<rs.length->(w.alloc<|.cells #[I f,I h,I j,.string d,.string v,I q,I r,I s,.bool u] 85).drew.cell? (O B a)=some (ab (l a) 0):=⟨p,by simp[go_sem],k⟩;clear k;go_region_held_law (λL=>L.cell? (O wb 0)=some (aa B rs.length S)/\L.cell? (O w.heap.size 1)=some (I h)/\∀a,a<rs.length->L.cell? (O B a)=some (ab (l a) 0)) (exact V)
  (first|(go_at_call 98;(go_call a1;rintro t E ⟨a,a4,rfl,rfl⟩)))
 obtain⟨⟨a2,F,s0,z,n,A,tk,qa⟩,e⟩:∃D,rs[a]?=some D:=⟨_,dy a4⟩;obtain rfl:a2=l a:=m a _ e;have H:=J e;let⟨g,T,U⟩:=c.ed a _ e;have k:=J (show ZZ o (a+5) _ (l a) F s0 z n A tk qa from g);have b:=J (show XY mf s0 z n A tk qa from T);have aA:n.size<=K:=U;clear g T U V p a1 e m;rcases(Q:f=2\/f=3\/f=4\/f=5\/f=6)with rfl|rfl|rfl|rfl|rfl
 .have e:=an3 (p:=d) y k c.og b.ok Q b.rs;go_wp21;go_call e;rintro t E ⟨rfl,a1,p,g⟩;have m:=J (c.lf C x (r':=⟨l a,F,s0,z,_,A,tk,_⟩) H g (Nat.le_add_right K d.size) ⟨p,b.ly Q,by show(if A=true then n else n++d).size<=_;split;omega;rw[uh];omega⟩ rfl);clear p g e c k;go_wp21;go_ret;exact⟨rfl,m⟩
 .have e:=ann y k c.og b.ok Q b.rs;go_wp21;go_call e;rintro t E ⟨rfl,a1,p,g⟩;have m:=J (c.lf C x (r':=⟨l a,F,s0,z,n,true,tk,_⟩) H g (Nat.le_add_right K d.size) ⟨p,b.fin Q,by show n.size<=_;omega⟩ rfl);go_wp21;go_ret;exact⟨rfl,m⟩
 .let⟨T,U,V⟩:=b.left j;have e:=av4 y k c.og b.ok b.rd Q b.rs _ T U (b.ot Q) j X.1 X.2 V;go_wp21;go_call e;rintro t E ⟨rfl,a1,p,g⟩;have m:=J (c.lf C x (r':=⟨l a,F,s0,z,n,A,_,_⟩) H g (Nat.le_add_right K d.size) ⟨p,b.take j,by show n.size<=_;omega⟩ rfl);go_wp21;go_ret;exact⟨rfl,m⟩
 .have e:=ath y k b.ok b.rd Q b.rs b.ry (b.ot Q);go_wp21;go_call e;rintro t E ⟨rfl,g⟩;have m:=J<|c.lb C x (Nat.le_add_right K d.size) g;go_wp21;go_ret;exact⟨rfl,m⟩
 have e:=ait y k b.ok b.rd Q b.st;go_wp21;go_call e;rintro t E ⟨rfl,g⟩;have m:=J<|c.lb C x (Nat.le_add_right K d.size) g;go_wp21;go_ret;exact⟨rfl,m⟩
end
