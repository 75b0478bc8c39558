import Derived.Lib.BytesEntry
import Derived.Test.YtppjlpihaocdiaaGreatDoorAfQ
set_option linter.all false
set_option maxRecDepth 100000
set_option maxHeartbeats 16000000
namespace Go.Proofs.YtppjlpihaocdiaaGreatDoor
open Go.RowKit Go.Proofs.Tryz
variable{w u v:ae}{a b c d e:Nat}{s t:ag}{x y z:af}{p D:Int}{l:List af}{f:Bool}{g:List Nat}{h:Nat->Prop}{o:Option Addr}{r:List UInt8}{A:Nat->Bool}{B:Nat->Nat->Bool}{C:Nat->Nat->Prop}(i:Nat)(S T:ag)(V X:af)(j k m n:Nat)(Z:Int)(W:ae)
structure Qqt(w:ae)(N:Nat)(nv kv:af)(zs:List Nat):Prop where
 own:w.ownsRow N 3 1 kv zs.length (zs.map λz:Nat=>I z)
 ne:∀k,kv.ownBlock=some k->nv.ownBlock≠some k
theorem Qqt.fr{k l:ae}{f d:Nat}{j e h:af}{m:List Nat}(c:Qqt k d j h m)(i:Qql f j e k l)(o:f<d):Qqt l d e h m:=by
 refine⟨Qqo c.own λa b=>?_,λa b=>?_⟩
 .have:=c.own.lt a b;exact i.block a this.2 Q<|λg=>c.ne a b g.symm
 have:=c.own.lt a b;obtain g|g:=i.km
 .rw[g];exact c.ne a b
 grind
def Qqk.drewN{j:ae}{b d h c:Nat}{f:NX}{i:ag}{g:af}(a:Qqk j b i d h c g f)(e:Nat):Qqk (j.drewN e) b i d h c g f:=
 Mv.Qqp (a.rc.ee.drewN e) a a.rc.le
theorem Wp(l:w.ownsRow a 3 1 (aa b c d) c (g.map λp:Nat=>I p)):∀(e f:Nat),g[e]?=some f->w.cell? (O b e)=some (I f):=by
 intro e f j
 obtain⟨k,_⟩|⟨q,r,i,m,_,n,_,_,_,o⟩:=l.2
 .cases k
 cases m
 rw[yya w b e i 3 (0,0) n];have:i.toList[e]?=some (I f):=by
  have h:(i.toList.take<|c*1)[e]?=some (I f):=by rw[o,zyc,j];rfl
  rw[Cg]at h;split at h
  .exact h
  cases h
 grind
theorem Qqk.tu{j:NX}(H:Qqk w a s b c d x j)(k:Nat->Prop)(R:∀e,e<w.heap.size->k e->j.X e):Qqk w a s b c d x ⟨j.l,k⟩:=by
 let⟨K,L,M,P,qa,S,T,⟨xs,U,V⟩,o⟩:=H;refine⟨K,L,M,P,qa,S,T,⟨xs,U,λe f hd=>?_⟩,o⟩;let⟨p,q,r,t,u,v,y,h,z,A⟩:=V e f hd;refine⟨p,q,r,t,u,v,y,?_,z,A⟩;obtain h|⟨l,B,C,D,E,m⟩:=h
 .exact .inl h
 by_cases n:f.ba=[]
 .exact .inl n
 obtain⟨i,F⟩:∃i,f.ba[0]?=some i:=by
  grind
 exact .inr ⟨l,B,C,D,λg=>E<|R l (dw w _<|m 0 i F) g,m⟩
theorem ad6(a:Nat)(b:ae)(c:Qqt b j V X [a]):
  Calls prog 101 #[.pointer<|some ⟨i,0,none⟩,.int .i64 Z,X] b λd e=>d=.returned (.int .i64 a)/\e=b:=by
 obtain⟨f,g,rfl,h,k⟩:=c.own.form qD;have l:=Wp c.own 0 a rfl;simp only[qx];go_in;go_wp2;go_ret;simp_all
theorem ad5(d:NX)(s:ag)(g v:af)(r:Nat)(q:Int)(c:Nat)(a:List Nat)(l:ae)(R:Qqk l i s j k m g d)(H:d.l.length<=1000)(e:Qqt l r g v a)(D:2<=a.length)(z:a.length<=1000)
  (qa:c=4\/c=5) (A:q=jr c) (y:∀C,d.X C->C<r) (T:i<r) (B:∀S∈a,S<d.l.length):
  Calls prog 101 #[.pointer<|some ⟨i,0,none⟩,.int .i64 q,v] l λo t=>∃n,o=.returned (.int .i64 d.l.length)/\Qqk t i s j k m n (d.add<|ct c a)/\Qql i g n l t:=by
 obtain⟨f,E,rfl,U,V⟩:=e.own.form Q;have K:Y (uj l i g d.X (some<|O f 0) (ct c a).ba):=.inr ⟨f,rfl,Q,e.ne f rfl,λb=>qE,Wp e.own⟩;have F:Y (a.length<=E):=by
  obtain⟨o,_⟩|⟨u,w,x,h,_,_,p,_⟩:=e.own.2
  .cases o
  cases h;exact p
 have p:Y (ww d.l.length m<|ct c a):=⟨by unfold ct;simp only;omega,B,λb=>by unfold ct at b;grind,λ_=>⟨D,z⟩,λb=>by unfold ct at b;grind,λb=>by unfold ct at b;grind⟩;have u:Y ((0:Int)=na (ct c a)):=by rw[na,ct,N qC];rfl
 have h:Y (a.length=(ct c a).ba.length):=rfl;have w:=J A;have x:=S4.zero;have L:((a.length:Int)==1)=false:=qB
 clear e B y A qa;generalize M:a.length=P at D z L F h|-;clear M;go_in;go_wp21;go_call Bi i j k m d s g _ R H (ct c a) q 0 0 0 P (some<|O f 0) E 0 0 0 0 w h u rfl rfl x K (by rw[<-h.out];exact F) p as o t ⟨n,rfl,b⟩;go_wp21;go_ret;exact⟨n,rfl,b⟩
theorem aa3(a:af)(b:TypeId):(W.alloc<|.cells #[a] b).cell? (O W.heap.size 0)=some a:=by
 simp_all
theorem Lt(c:NX)(o:ag)(g:af)(d f:Nat)(e:Int)(a:ae)(l:Qqk a i o j k m g c)(D:c.l.length<=1000)(s:∀u,c.X u->u<a.heap.size)(K:d<c.l.length)(y:f<=9)(z:e<=9)(A:e=-1\/(f:Int)<=e):
  Calls prog 188 #[.pointer<|some ⟨i,0,none⟩,.int .i64 d,.int .i64 f,.int .i64 e] a λn p=>∃h,n=.returned (.int .i64 c.l.length)/\Qqk p i o j k m h (c.add<|gr d f e)/\Qql i g h a p:=by
 have B:=l;have L:i<a.heap.size:=dw a _ l.rc.c0;have C:Y (g.ownBlock≠some a.heap.size):=by
  let⟨xs,b,_⟩:=l.own;exact λn=>by have:=(b.lt _ n).2;omega
 have E:Y (ww c.l.length m<|gr d f e):=⟨ay 6,λM q=>by unfold gr at q;simp at q;omega,λ_=>⟨d,rfl⟩,λb=>by unfold gr at b;simp at b,λ_=>⟨y,z,A⟩,λb=>by unfold gr at b;simp at b⟩;have F:=J s;clear l s;go_in;go_wp21;have r:Below a.heap.size a (a.alloc<|.cells #[I d] 3):=(bp _ _).alloc ah _;refine(Bi i j k m c o g _ (Below.Qqq r B) D (gr d f e) _ _ _ _ _ _ _ 0 0 0 0 rfl rfl rfl rfl rfl S4.zero (.inr ⟨a.heap.size,rfl,Q,C,λb=>by have:=F _ b;omega,λH v t=>?_⟩) (ay 1) E).mono ?_
 .have:H=0:=by
   have:=(jy.1 t).1;simp[gr]at this;exact this
  subst this;have:v=d:=by simpa[gr]using t.symm
  simp_all
 rintro n p ⟨h,rfl,w,x⟩;go_wp21;go_ret;exact⟨h,rfl,w,(Below.Qqr r g).trans x⟩
theorem Na(f:c<=2:=by omega):ww a b (gb c A):=
 ⟨by unfold gb;simp only;omega,λg e=>by unfold gb at e;simp at e,λd=>by unfold gb at d;grind,λd=>by unfold gb at d;grind,λd=>by unfold gb at d;grind,λd=>by unfold gb at d;grind⟩
def Qh(b:NX)(g:ag)(c:af)(d:ae)(u:Qqk d i g j k m c b)(D:b.l.length<=1000)(U:j<g.size)
  (t:Int) (a:Nat) (e:Nat->Bool) (h l n o:Nat) (x:a<=2) (v:t=jr a) (B:S4 h l n o e):
  Calls prog 218 #[.pointer<|some ⟨i,0,none⟩,.agg #[.int .i64 t,.slice none 0 0,.int .u64 h,.int .u64 l,.int .u64 n,.int .u64 o,.int .i64 0,.int .i64 0,.int .i64 0]] d
   λs q=>∃f,s=.returned (.int .i64 b.l.length)/\Qqk q i g (j+1) k m f (b.add<|gb a e)/\Qql i c f d q:=by
 have y:=u;let⟨⟨z,r,E,H,K⟩,L,M,P,qa,R,S,p,A⟩:=u;have T:i<d.heap.size:=dw d _ z;have C:Y ((0:Int)=na (gb a e)):=by rw[na,gb,N qC];rfl
 have w:=J v;clear p A v;go_in;go_wp2_with (go_at_call 150;go_call Bi i (j+1) k m b g c _ (Below.Qqq ((bp _ _).alloc ah _)<|Mv.Qqp ((Mv.ee r).set (j+1) Q) y Q) D (gb a e) _ _ _ _ _ _ _ h l n o w rfl C rfl rfl B (.inl rfl) (ey _) (Na x)as s q ⟨f,rfl,F,p⟩);go_ret;exact⟨f,rfl,F,((Mv.Qqn ((Mv.ee r).set<|j+1) c).trans<|Below.Qqr ((bp _ _).alloc ah _) c).trans p⟩
def ul(b:Nat)(s:ag)(i o:Nat)(n:NX)(nv:af)(w:ae)(K:Nat->St->Prop)(F:bs×Nat)(z:Int)(ok:Bool)(w':ae):Prop:=
 (ok=true/\∃(j g':Nat)(n':NX)(nv':af)(st:St)(zn:Nat),Qqk w' b s j o g' nv' n'/\Qql b nv nv' w w'/\run s j=some st/\st.o=o/\st.a=g'/\i<j/\n'.l.length+1+2*i<=n.l.length+2*j/\K j st/\n'.X=n.X/\z=zn/\zn<n'.l.length/\F=(⟨j,g',n'.l⟩,zn))\/
 (ok=false/\∃j:Nat,kw s j/\w'.cell? (O b 1)=some (I j)/\Below b w w')
def ul.np{g:NX}{i:Nat->St->Prop}{j:bs×Nat}(h:Qqk w a s b c d x g)(f:Mv a w u e)(hF:kw s e):ul a s b c g x w i j p false u:=
 .inr ⟨rfl,e,hF,f.c1,(Mv.Qqn f x).below h⟩
def ul.after{a b i1 j C:Nat}{c d:NX}{k:Nat->St->Prop}{l:bs×Nat}(K:Qqk w a s b j C x c)(m:Qql a x y w u)(S:b<=i1)(P:d.l.length+2*b<=c.l.length+2*i1)(L:d.X=c.X)
  (D:ul a s i1 j d y u k l p f v):ul a s b j c x w k l p f v:=by
 obtain⟨rfl,e,E,F,H,M,n,g,h,i,o,q,U,R,r,t,z,A,B⟩|⟨rfl,e,g,h,i⟩:=D
 .exact .inl ⟨rfl,e,E,F,H,M,n,g,m.trans h,i,o,q,Q,Q,r,by rw[t,L],z,A,B⟩
 exact .inr ⟨rfl,e,g,h,(m.below K).trans i⟩
def oc(a:NX)(b:Nd):(a.add b).l.length=a.l.length+1:=by simp[NX.add]
def Qqu(a:Rc W i S j)(d:k<256)(e:pk S j=k):
  Calls prog 100 #[.pointer<|some ⟨i,0,none⟩,.int .u8 k] W λb c=>b=.returned (.bool true)/\Mv i W c (j+1):=by
 go_call Bh as b c ⟨rfl,n,rfl⟩;exact⟨rfl,(a.ee.set (j+1) rfl).drewN n⟩
def Qqv(a:Rc W i S j)(d:k<256)(e:pk S j≠k):
  Calls prog 100 #[.pointer<|some ⟨i,0,none⟩,.int .u8 k] W λb c=>b=.returned (.bool false)/\Mv i W c j:=by
 go_call tq as b c ⟨rfl,n,rfl⟩;exact⟨rfl,a.ee.drewN n⟩
def abz(b:Rc W i S j)(e:k<=9)(a:j<S.size)(f:48+k<=au S j)(g:au S j<=57):
  Calls prog 224 #[.pointer<|some ⟨i,0,none⟩,.int .i64 k] W λc d=>c=.returned (.tuple #[.int .i64 (au S j-48:Nat),.bool true])/\Mv i W d (j+1):=by
 go_call amj i S j k W b e (by rw[fh a];omega) (by rw[fh a];omega)as c d ⟨rfl,n,rfl⟩;exact⟨Qd (by rw[fh a];omega) rfl,(b.ee.set (j+1) rfl).drewN n⟩
def aby(b:Rc W i S j)(e:k<=9)(f:¬(j<S.size/\48+k<=au S j/\au S j<=57)):
  Calls prog 224 #[.pointer<|some ⟨i,0,none⟩,.int .i64 k] W λc d=>c=.returned (.tuple #[.int .i64 0,.bool false])/\Mv i W d j:=by
 refine(ami i S j k W b e ?_).mono ?_
 .by_cases a:j<S.size
  .rw[fh a];omega
  rw[qj a];omega
 rintro c d ⟨rfl,a,rfl⟩;exact⟨rfl,b.ee.drewN a⟩
def Qqw(d:pk s a=c):a<s.size/\au s a=c:=by
 by_cases b:a<s.size
 .rw[fh b]at d;omega
 rw[qj b]at d;omega
def Cw(f:a=12\/a=14):step ⟨a,b,c,d⟩ e=if e=125 then some ⟨2,b,c,d⟩else if e=44/\a=12 then some ⟨13,b,c,d⟩else none:=by
 unfold step;simp only;rw[N,N,N,G];unfold rz;simp only;rw[N]
theorem Bl(f:a=11\/a=13):step ⟨a,b,c,d⟩ e=if 48<=e/\e<=57/\d<=e-48 then some ⟨if a=11 then 12 else 14,b,c,e-48⟩else none:=by
 unfold step;simp only;rw[N,N,N,G];grind[rz]
def amf(f:NX)(b:ag)(s:af)(l:Nat)(H:ae)(h:Qqk H i b j k m s f)(W:f.l.length<=1000)(X:∀a9,f.X a9->a9<H.heap.size)(a0:l<f.l.length)(a8:run b j=some ⟨11,k,m,0⟩):
  Calls prog 189 #[.pointer<|some ⟨i,0,none⟩,.int .i64 l] H λe aA=>∃(aB:Int)(a1:Bool),e=.returned (.tuple #[.int .i64 aB,.bool a1])/\ul i b j k f s H (λ_ aC=>aC.m=2) (if pk b (j+1)=44 then cp ⟨j,m,f.l⟩ (j+4) (gr l (au b j-48) ((au b (j+2)-48:Nat):Int))else cp ⟨j,m,f.l⟩ (j+2) (gr l (au b j-48) ((au b j-48:Nat):Int))) aB a1 aA:=by
 have a2:=J X;generalize d:(if pk b (j+1)=44 then cp ⟨j,m,f.l⟩ (j+4) (gr l (au b j-48) ((au b (j+2)-48:Nat):Int))else cp ⟨j,m,f.l⟩ (j+2) (gr l (au b j-48) ((au b j-48:Nat):Int)))=aI;have a3:=J d;clear d;have a4:=J a8;have K:=h.rc;have aD:=h.rc.le;clear a8 X;by_cases L:j<b.size/\48+0<=au b j/\au b j<=57
 .obtain⟨aE,y,n⟩:=L;have z:Y (j<b.size/\48+0<=au b j/\au b j<=57):=⟨aE,y,n⟩;have B:Y (run b (j+1)=some ⟨12,k,m,au b j-48⟩):=by
   rw[Y,lf a4.out,Bl<|.inl rfl,G ⟨Q,n,Q⟩];rfl
  obtain⟨g,hd⟩:∃g,au b j-48=g:=⟨_,rfl⟩;have M:=J hd;have C:g<=9:=Q
  rw[hd]at B;clear hd y n;go_in;go_wp21;refine(abz i b j 0 _ K Q z.1 z.2.1 z.2.2).mono ?_;rw[M.out];rintro e aJ ⟨rfl,t⟩;have u:=t.rc K Q;by_cases o:pk b (j+1)=(44:Nat)
  .have v:=J o;obtain⟨aK,d⟩:=Qqw o;have a5:Y (run b (j+2)=some ⟨13,k,m,g⟩):=by
    rw[Y,lf B.out,Cw<|.inl rfl,d];rfl
   clear o d;go_wp21;go_call Qqu i b (j+1) 44 _ u Q v.out as e Z ⟨rfl,a⟩;go_wp21;have a6:=t.trans a;have R:Rc Z i b (j+2):=a.rc u Q;clear a;by_cases S:j+2<b.size/\48+g<=au b (j+2)/\au b (j+2)<=57
   .obtain⟨aF,y,n⟩:=S;have p:Y (j+2<b.size/\48+g<=au b (j+2)/\au b (j+2)<=57):=⟨aF,y,n⟩;have T:Y (run b (j+3)=some ⟨14,k,m,au b (j+2)-48⟩):=by
     rw[Y,lf a5.out,Bl<|.inr rfl,G ⟨Q,n,Q⟩];rfl
    obtain⟨D,hd⟩:∃D,au b (j+2)-48=D:=⟨_,rfl⟩;have E:=J hd;rw[hd]at T;clear hd y n;refine(abz i b (j+2) g _ R C p.1 p.2.1 p.2.2).mono ?_;rw[E.out];rintro e w3 ⟨rfl,A⟩;have F:=a6.trans A;have a7:Rc w3 i b (j+3):=A.rc R Q;clear A;by_cases d:pk b (j+3)=(125:Nat)
    .have q:=J d;obtain⟨aG,w⟩:=Qqw d;have U:Y (run b (j+4)=some ⟨2,k,m,D⟩):=by
      rw[Y,lf T.out,Cw<|.inr rfl,w];rfl
     clear d w;go_wp21;go_call Qqu i b (j+3) 125 _ a7 Q q.out as e w4 ⟨rfl,c⟩;go_wp21;go_call Lt i (j+4) k m f b s l g D _ (Mv.Qqp (F.trans c) h Q) W (by rw[(F.trans c).only.size];exact a2.out) a0 C (by have:=p.out;have:=E.out;omega) (.inr (by have:=p.out;have:=E.out;omega))as e aH ⟨V,rfl,P,qa⟩;go_wp21;go_ret2;exact⟨_,true,rfl,.inl ⟨rfl,_,_,_,V,_,f.l.length,P,(Mv.Qqn (F.trans c) s).trans qa,U.out,rfl,rfl,Q,by rw[oc];omega,rfl,rfl,rfl,by rw[oc];omega,by rw[<-a3.out,G (show pk b (j+1)=44 from v.out),M.out,E.out];rfl⟩⟩
    have q:=J d;have r:Y (kw b<|j+3):=by
     refine kw.here T.out Q (λx=>?_) (λ_=>Bt qD qD);rw[fh x]at d;rw[Cw<|.inr rfl,N Q,N Q]
    clear d;go_wp21;go_call Qqv i b (j+3) 125 _ a7 Q q.out as e w4 ⟨rfl,c⟩;go_wp21;go_ret2;exact⟨0,false,rfl,.np h (F.trans c) r.out⟩
   have p:=J S;have r:Y (kw b<|j+2):=by
    refine kw.here a5.out Q (λx=>?_) (λ_=>Bt qD qD);rw[Bl<|.inr rfl,N Q]
   clear S;go_call aby i b (j+2) g _ R C p.out as e w3 ⟨rfl,A⟩;go_wp21;go_ret2;exact⟨0,false,rfl,.np h (a6.trans A) r.out⟩
  have v:=J o;by_cases d:pk b (j+1)=(125:Nat)
  .have q:=J d;obtain⟨aG,w⟩:=Qqw d;have U:Y (run b (j+2)=some ⟨2,k,m,g⟩):=by
    rw[Y,lf B.out,Cw<|.inl rfl,w];rfl
   clear d w o;go_wp21;go_call Qqv i b (j+1) 44 _ u Q v.out as e Z ⟨rfl,a⟩;go_wp21;go_call Qqu i b (j+1) 125 _ (a.rc u Q) Q q.out as e w4 ⟨rfl,c⟩;go_wp21;go_call Lt i (j+2) k m f b s l g g _ (Mv.Qqp (t.trans<|a.trans c) h Q) W (by rw[(t.trans<|a.trans c).only.size];exact a2.out) a0 C Q (.inr Q)as e aH ⟨V,rfl,P,qa⟩;go_wp21;go_ret2;exact⟨_,true,rfl,.inl ⟨rfl,_,_,_,V,_,f.l.length,P,(Mv.Qqn (t.trans<|a.trans c) s).trans qa,U.out,rfl,rfl,Q,by rw[oc];omega,rfl,rfl,rfl,by rw[oc];omega,by rw[<-a3.out,N (show ¬pk b (j+1)=44 from v.out),M.out];rfl⟩⟩
  have q:=J d;have r:Y (kw b<|j+1):=by
   refine kw.here B.out Q (λx=>?_) (λ_=>Bt qD qD);rw[fh x]at d o;rw[Cw<|.inl rfl,N Q,N Q]
  clear d o;go_wp21;go_call Qqv i b (j+1) 44 _ u Q v.out as e Z ⟨rfl,a⟩;go_wp21;go_call Qqv i b (j+1) 125 _ (a.rc u Q) Q q.out as e w4 ⟨rfl,c⟩;go_wp21;go_ret2;exact⟨0,false,rfl,.np h (t.trans<|a.trans c) r.out⟩
 have z:=J L;have r:Y (kw b j):=by
  refine kw.here a4.out aD (λx=>?_) (λ_=>Bt qD qD);rw[Bl<|.inl rfl,N Q]
 clear L;go_in;go_wp21;go_call aby i b j 0 _ K Q z.out as e aA ⟨rfl,hm⟩;go_wp21;go_ret2;exact⟨0,false,rfl,.np h hm r.out⟩
def Nk(g:Rc W i S j)(h:k<256):
  Calls prog 100 #[.pointer<|some ⟨i,0,none⟩,.int .u8 k] W λc f=>∃(e:Bool)(d:Nat),c=.returned (.bool e)/\Mv i W f d/\((e=true/\pk S j=k/\d=j+1)\/(e=false/\pk S j≠k/\d=j)):=by
 by_cases b:pk S j=k
 .go_call Qqu as c f ⟨rfl,a⟩;exact⟨true,_,rfl,a,.inl ⟨rfl,b,rfl⟩⟩
 go_call Qqv as c f ⟨rfl,a⟩;exact⟨false,_,rfl,a,.inr ⟨rfl,b,rfl⟩⟩
def Qqx(w:ae)(b:Nat):Nat:=match w.cell? (O b 1)with|some (.int _ q)=>q.toNat|_=>0
def Qqy(c:w.cell? (O a 1)=some (I b)):Qqx w a=b:=by simp[Qqx,c]
def eh.Qqz{t:NX}(n:eh a w u)(z:Qqk w b s c d e x t)(A:a≠b)(B:x.ownBlock≠some a)(C:∃v,w.cell? (O a 0)=some (.int .u64 v)):Qqk u b s c d e x t:=by
 let⟨⟨D,E,F,a8,a9⟩,H,K,L,M,P,qa,⟨xs,a4,aA⟩,aB⟩:=z;have p:=n.block b<|λg=>A g.symm;have h:∀f,u.cell? (O b f)=w.cell? (O b f):=λf=>ac f p
 have k:∀f,u.frozen? (O b f)=w.frozen? (O b f):=λf=>ad f p
 refine⟨⟨(h 0).trans D,(h 1).trans E,(k 1).trans F,a8,a9⟩,(h 2).trans H,(h 3).trans K,(h 4).trans L,(k 2).trans M,(k 3).trans P,(k 4).trans qa,⟨xs,
  Qqo a4 λf R=>n.block f<|λg=>B<|by rw[R,g],λf j hd=> ?_⟩,aB⟩
 let⟨S,Z,T,U,V,W,X,o,a5,a6⟩:=aA f j hd;refine⟨S,Z,T,U,V,W,X,?_,a5,a6⟩;obtain o|⟨l,a0,a1,a2,a3,q⟩:=o
 .exact .inl o
 by_cases r:j.ba=[]
 .exact .inl r
 obtain⟨i,m⟩:∃i,j.ba[0]?=some i:=by
  cases hd:j.ba with
  |nil=>exact cb hd r
  |cons y a7=>exact⟨y,rfl⟩
 have y:l≠a:=λg=>by
  let⟨v,a7⟩:=C;have:=q 0 i m;rw[g,a7]at this;cases this
 exact .inr ⟨l,a0,a1,a2,a3,λf i m=>(ac f<|n.block l y).trans<|q f i m⟩
def Qql.only(c:Qql a x y w u)(d:eh b u v)(i:w.heap.size<=b:=by omega):Qql a x y w v:=
 ⟨d.os.trans c.os,d.tape.trans c.tape,d.output.trans c.output,by rw[d.size];exact c.size,λe f g h=>(d.block e Q).trans<|c.block e f g h,c.km⟩
def jq.Qza{g h i j:Int}(d:jq w a g h i j)(m:eh b w u)(l:a≠b:=by omega):jq u a g h i j:=by
 have k:=m.block a l;have e:∀c,u.cell? (O a c)=w.cell? (O a c):=λc=>ac c k
 have f:∀c,u.frozen? (O a c)=w.frozen? (O a c):=λc=>ad c k
 exact⟨(e 0).trans d.c0,(e 1).trans d.c1,(e 2).trans d.c2,(e 3).trans d.c3,(f 0).trans d.f0,(f 1).trans d.f1,(f 2).trans d.f2,(f 3).trans d.f3⟩
def jq.Qzb{f g h i:Int}(b:jq w a f g h i)(k:Below w.heap.size w u):jq u a f g h i:=by
 have j:=k.block a<|dw w _ b.c0;have d:∀c,u.cell? (O a c)=w.cell? (O a c):=λc=>ac c j
 have e:∀c,u.frozen? (O a c)=w.frozen? (O a c):=λc=>ad c j
 exact⟨(d 0).trans b.c0,(d 1).trans b.c1,(d 2).trans b.c2,(d 3).trans b.c3,(e 0).trans b.f0,(e 1).trans b.f1,(e 2).trans b.f2,(e 3).trans b.f3⟩
def jq.store{b c d e z0 z1 z2 z3:Int}(f:jq w a b c d e):
  jq ((((w.setCell (O a 0)<|.int .u64 z0).setCell (O a 1)<|.int .u64 z1).setCell (O a 2)<|.int .u64 z2).setCell (O a 3)<|.int .u64 z3) a z0 z1 z2 z3/\
  eh a w ((((w.setCell (O a 0)<|.int .u64 z0).setCell (O a 1)<|.int .u64 z1).setCell (O a 2)<|.int .u64 z2).setCell (O a 3)<|.int .u64 z3):=by
 let⟨g,h,i,j,k,l,m,n⟩:=f;exact⟨by constructor<;>go_simp,((((eh.refl _ _).setCell _ _).setCell _ _).setCell _ _).setCell _ _⟩
structure akc(w0 wr:ae)(b N:Nat)(s:ag)(i o g:Nat)(nv:af)(n:NX)(j:Nat)(j0:Nat):Prop where
 rd:Qqk wr b s j o g nv n
 fr:Qql b nv nv w0 wr
 four:∃(y0 y1 y2 y3 f:Nat)(S:Nat->Bool),jq wr N y0 y1 y2 y3/\S4 y0 y1 y2 y3 S/\s.size<=f+j/\setL s s.size j0 dp=setL s f j S
 st:∃st,run s j=some st/\st.o=o/\st.a=g/\wv s j 0 st/\st.m≠8
 lt:i<j
def Yb(d b g f aA:Nat)(k:NX)(a:ag)(e:af)(l:ae)(aY:Qqk l d a b g f e k)(aX:k.l.length<=1000)(cJ:b<a.size)(aU:run a (b+1)=some ⟨4,g,f,aA⟩):
  Calls prog 221 #[.pointer<|some ⟨d,0,none⟩] l λi c0=>∃(b6:Int)(aB:Bool),i=.returned (.tuple #[.int .i64 b6,.bool aB])/\ul d a b g k e l (λ_ c=>c.m=1) (cp ⟨b,f,k.l⟩ (sh a b).1<|gb 0 (sh a b).2) b6 aB c0:=by
 have a2:=aY;have aG:=J aU;let⟨⟨bY,bZ,cP,c9,cA⟩,c6,c7,c8,cF,cG,cH,h,m⟩:=aY;have bT:d<l.heap.size:=dw l _ bY;have b9:Y (∀a1,e.ownBlock=some a1->a1<l.heap.size):=by
  let⟨xs,o,_⟩:=h;exact λa1 n=>(o.lt a1 n).2
 have aI:Mv d l (l.setCell (O d 1)<|I<|(b:Int)+1) (b+1):=(Mv.ee bZ).set (b+1);clear h aU m;go_in;go_wp21;go_call Nk d a (b+1) 94 _ (aI.rc a2.rc Q) Q as i p ⟨q,j,rfl,n,m⟩;have b8:Y (∃c,run a j=some c/\c.o=g/\c.a=f/\wv a j 0 c/\c.m≠8):=by
  obtain⟨rfl,h,rfl⟩|⟨rfl,h,rfl⟩:=m
  .let⟨bR,aV⟩:=Qqw (c:=94) h;exact⟨⟨5,g,f,aA⟩,by rw[lf aG.out,Dk,Ai,aV];rfl,rfl,rfl,.inr ⟨rfl,.inr<|.inl rfl⟩,qD⟩
  exact⟨⟨4,g,f,aA⟩,aG,rfl,rfl,.inr ⟨rfl,.inl ⟨rfl,h⟩⟩,qD⟩
 have aW:b<j/\j<=a.size:=by
  obtain⟨rfl,h,rfl⟩|⟨rfl,h,rfl⟩:=m
  .let⟨bR,aV⟩:=Qqw (c:=94) h;omega
  omega
 have X:Y (sh a b=if q=true then((setL a a.size j dp).1,λa8=> !(setL a a.size j dp).2 a8)else setL a a.size j dp):=by
  unfold sh;obtain⟨rfl,h,rfl⟩|⟨rfl,h,rfl⟩:=m
  .rw[Y,G (show pk a (b+1)=94 from h),G rfl]
  rw[Y,N (show ¬pk a (b+1)=94 from h),N qD]
 have a3:=aI.trans n;have bE:=Mv.Qqp a3 a2 aW.2;have o:=a3.only.size;have W:=J o;clear m n o;go_wp21;go_loopw [] (λwr=>∃bU,akc l wr d p.heap.size a b g f e k bU j) (λwr=>a.size-Qqx wr d)
 case atStart=>
  have Z:Below p.heap.size p (p.alloc<|.cells #[.int .u64 0,.int .u64 0,.int .u64 0,.int .u64 0] 149):=(bp _ _).alloc ah _;exact⟨j,Below.Qqq Z bE,(Mv.Qqn a3 e).trans<|Below.Qqr Z e,⟨0,0,0,0,a.size,dp,by constructor<;>go_simp,S4.zero,Q,rfl⟩,b8,aW.1⟩
 let⟨bV,bS⟩:=hrel;let⟨rd,aT,⟨c2,c3,c4,c5,F,E,b7,bA,cC,m⟩,⟨c,n,bF,bG,s,o⟩,cE⟩:=bS;have aJ:=J m;clear m;have cI:d<p.heap.size:=by rw[W.out];exact bT
 have M:p.heap.size≠d:=Q
 have aK:Y (e.ownBlock≠some p.heap.size):=λi=>by have:=b9 _ i;have:=W.out;omega
 have m:=Qqy rd.rc.c1;have bH:=J m;clear m;go_wp21;go_call ak6 d a bV c _ rd.rc n s o as i cR ⟨H,t,aB,a0,rfl,r,a4,Z⟩;clear n s o;obtain⟨rfl,cK,bW,bX,a9⟩|⟨rfl,hF⟩:=Z
 .let⟨bI,bJ,m⟩:=a4 rfl;have aL:=J m;clear m;rw[bF,bG]at a9;have aH:=J a9;have bK:=Mv.Qqp r rd bW;have b0:=jq.Qza b7 r.only M;have bL:=b0;let⟨s,u,v,w,y,z,A,B⟩:=b0;clear a4 a9;go_wp21;go_call Qqj as i w3 ⟨⟨R,S,T,U,rfl,a7⟩,K⟩;have b1:=jq.Qzb bL K;have aM:=b1;let⟨s,u,v,w,y,z,A,B⟩:=b1;have n:=jq.store (z0:=R) (z1:=S) (z2:=T) (z3:=U) aM;have V:=n.1;have o:=n.2;go_wp21;generalize((((w3.setCell (O p.heap.size 0)<|.int .u64 R).setCell (O p.heap.size 1)<|.int .u64 S).setCell (O p.heap.size 2)<|.int .u64 T).setCell (O p.heap.size 3)<|.int .u64 U)=w4 at V o;have a5:=eh.Qqz o (Below.Qqq K bK) M aK ⟨_,aM.c0⟩;have aN:=((aT.trans<|Mv.Qqn r e).trans<|Below.Qqr K e).only o (by rw[W.out];exact ah);have aO:=V;go_call Nk d a a0 93 _ a5.rc Q as i cS ⟨cN,m,rfl,D,bM⟩;obtain⟨rfl,C,L⟩|⟨rfl,C,L⟩:=bM
  .let⟨cM,aZ⟩:=Qqw (c:=93) C;have aP:Y (run a m=some ⟨1,g,f,bX⟩):=by
    rw[L];obtain⟨x,_⟩|x:=aH
    .rw[Y,lf x,Dk,Aj,aZ];rfl
    rw[Y,lf x,Dk,Bp,aZ];rfl
   have bN:m<=a.size:=Q
   have aQ:Y (setL a a.size j dp=(m,kx E H t)):=by
    rw[Y,aJ.out,show F=(F-1)+1 from Q,setL,aL.out,G (show pk a a0=93 from C),L]
   have qa:=Mv.Qqp D a5 bN;have aR:=aN.trans<|Mv.Qqn D e;have aE:=jq.Qza aO D.only M;have bO:=aE;let⟨s,u,v,w,y,z,A,B⟩:=aE;obtain N|N:=df q
   .subst N;go_wp21;go_call Qqi as i cT ⟨⟨b2,b3,b4,b5,rfl,bD⟩,a6⟩;have aF:=jq.Qzb bO a6;have aS:=aF;let⟨s,u,v,w,y,z,A,B⟩:=aF;have n:=jq.store (z0:=b2) (z1:=b3) (z2:=b4) (z3:=b5) aS;have o:Y _:=n.2;go_wp21;have bP:=eh.Qqz o (Below.Qqq a6 qa) M aK ⟨_,aS.c0⟩;have bQ:=(aR.trans<|Below.Qqr a6 e).only o (by rw[W.out];exact ah);go_call Bi d m g f k a e _ bP aX (gb 0 λa8=> !kx E H t a8) 2 0 0 0 0 none 0 b2 b3 b4 b5 rfl rfl rfl rfl rfl bD (.inl rfl) ah (Na Q)as i c1 ⟨P,rfl,aC,aD⟩;go_wp21;go_ret2;exact⟨_,true,rfl,.inl ⟨rfl,_,_,_,P,_,k.l.length,aC,bQ.trans aD,aP,rfl,rfl,Q,by rw[oc];omega,rfl,rfl,rfl,by rw[oc];omega,by rw[X.out,G qD,aQ.out];rfl⟩⟩
   subst N;go_wp21;go_call Bi d m g f k a e _ qa aX (gb 0<|kx E H t) 2 0 0 0 0 none 0 R S T U rfl rfl rfl rfl rfl a7 (.inl rfl) ah (Na Q)as i c1 ⟨P,rfl,aC,aD⟩;go_wp21;go_ret2;exact⟨_,true,rfl,.inl ⟨rfl,_,_,_,P,_,k.l.length,aC,aR.trans aD,aP,rfl,rfl,Q,by rw[oc];omega,rfl,rfl,rfl,by rw[oc];omega,by rw[X.out,N qD,aQ.out];rfl⟩⟩
  have aC:Y (∃c,run a m=some c/\c.o=g/\c.a=f/\wv a m 0 c/\c.m≠8):=by
   rw[L];obtain⟨x,a6⟩|x:=aH
   .exact⟨_,x,rfl,rfl,.inr ⟨rfl,.inr<|.inr<|.inl ⟨rfl,C,a6⟩⟩,qD⟩
   exact⟨_,x,rfl,rfl,.inr ⟨rfl,.inr<|.inr<|.inr ⟨rfl,C⟩⟩,qD⟩
  have qa:=Mv.Qqp D a5;go_wp21;go_roundw
  .exact⟨m,qa,aN.trans<|Mv.Qqn D e,⟨R,S,T,U,F-1,kx E H t,jq.Qza aO D.only M,a7,Q,by rw[aJ.out,show F=(F-1)+1 from Q,setL,aL.out,N (show ¬pk a a0=93 from C),L];rfl⟩,aC,Q⟩
  have X:=Qqy qa.rc.c1;have a6:=bH.out;rw[X,a6];omega
 have n:=J hF;have m:=Mv.Qqn r e;have o:=(aT.trans m).below a2;have s:=J r.c1;go_wp21;go_ret2;exact⟨0,false,rfl,.inr ⟨rfl,a0,n,s,o⟩⟩
def Nb(s:ag)(j:Nat)(st:St):Prop:=(st.m=1/\pk s j≠(42:Nat)/\pk s j≠(43:Nat)/\pk s j≠(63:Nat)/\pk s j≠(123:Nat))\/st.m=2
def aal(s:ag)(j:Nat)(st:St):Prop:=Nb s j st/\ue s j=false
def Rm(s:ag)(j:Nat)(st:St):Prop:=aal s j st/\pk s j≠(124:Nat)
def Hj(N:Nat):Prop:=∀(b i o g:Nat)(n:NX)(s:ag)(nv:af)(st:St)(w:ae),Qqk w b s i o g nv n->n.l.length<=2*i->(∀q,n.X q->q<w.heap.size)->run s i=some st->st.m=0->st.o=o->st.a=g->s.size-i<N->
  Calls prog 64 #[.pointer<|some ⟨b,0,none⟩] w λe w'=>∃(z:Int)(ok:Bool),e=.returned (.tuple #[.int .i64 z,.bool ok])/\ul b s i o n nv w (Rm s) (ml s N ⟨i,g,n.l⟩) z ok w'
def Mm{b:St}(e:b.m<=2)(f:bn mb a=false):step b a=kh b a:=by
 let⟨i,l,j,k⟩:=b;have d:¬(bn mb a=true):=by rw[f];simp
 rw[Cz]at d;have h:¬(bn xr a=true):=by rw[Eh];omega
 unfold step;simp only at e|-;by_cases c:i=0
 .rw[G c]
 rw[N c,G];unfold nr;simp only;rw[N<|λg=>h g.2,N,N,N]
def aiw{b:St}(l:Rm s a b)(h:a<s.size)(d:pk s a≠(41:Nat)\/b.o=0):step b (au s a)=none:=by
 let⟨⟨c,n⟩,i⟩:=l;have e:bn mb (au s a)=true:=by simpa[ue,h]using n
 have f:=e;rw[Cz]at f;unfold Nb at c;rw[fh h]at c i d;let⟨j,o,k,m⟩:=b;simp only at c d;generalize au s a=g at c i d e f;have p:kh ⟨j,o,k,m⟩ g=none:=by
  rw[kh,N,N,N,G e]
 have q:¬(j=1/\bn xr g=true):=by rw[Eh];omega
 unfold step;simp only;rw[N,G];unfold nr;simp only;rw[N q,N,N,N];exact p
def aiu{a:St}(c:a.m=1\/a.m=2:=by omega)(b:0<a.o:=by omega):step a 41=some ⟨1,a.o-1,a.a,a.l⟩:=by
 let⟨h,i,f,g⟩:=a;simp only at c b|-;have d:¬(bn xr 41=true):=by rw[Eh];omega
 unfold step;simp only;rw[N,G];unfold nr;simp only;rw[N<|λe=>d e.2,N,N,G<|by simp[b]]
def eh.fr(b:eh a w u)(c:af):Qql a c c w u:=
 ⟨b.os,b.tape,b.output,by rw[b.size];exact ah,λe _ d _=>b.block e d,.inl rfl⟩
def aev{c d:St}(b:kh c a=some d):c.a<=d.a:=by
 unfold kh at b
 (repeat' split at b)<;>first|(cases b;simp only;omega)|cases b
def aqy{c d:St}(b:step c a=some d):c.a<=d.a:=by
 unfold step at b;split at b
 .exact aev b
 split at b
 .unfold nr at b
  (repeat' split at b)<;>first|(cases b;exact ah)|exact aev b
 split at b
 .split at b
  .cases b;exact ah
  cases b
 split at b
 .unfold rz at b
  (repeat' split at b)<;>first|(cases b;exact ah)|cases b
 unfold oi at b;simp only at b
 (repeat' split at b)<;>first|(cases b;exact ah)|cases b
def aew{h:ag}{c:Nat}{g:St}(f:run h c=some g):∀{d:Nat} {e:St},c<=d->run h d=some e->g.a<=e.a
 |0,e,b,a=>by
  obtain rfl:c=0:=Q
  rw[f]at a;cases a;exact ah
 |d+1,e,b,a=>by
  by_cases j:c=d+1
  .subst j;rw[f]at a;cases a;exact ah
  simp only[run,Ey]at a;let⟨k,i,a⟩:=a;exact bq (aew f Q i)<|aqy a
def ww.mono{e:Nd}(d:ww a b e)(f:b<=c:=by omega):ww a c e:=⟨d.k6,d.sub,d.one,d.two,d.Hc,λg=>ew (d.num g) f⟩
def ou.set{d v:af}{xs:List af}{c:NX}(f:ou w a d xs c):ou (w.setCell (O a b) v) a d xs c:=f.of λg _ e _=>er _ _ _ _ e
def Qqk.Lq{f:NX}(k:Qqk w a s b c d x f){v:Int}(e:Nat)(m:v=e):Qqk (w.setCell (O a 2)<|I v) a s b e d x f:=by
 let⟨⟨p,q,r,h,i⟩,t,u,y,z,A,o,⟨xs,g,j⟩,l⟩:=k;subst m;have n:(w.setCell (O a 2)<|I e).ownsRow (a+1) 151 9 x f.l.length xs:=ownsRow_setCell_below g qD _;exact⟨⟨qI,qI,qI,h,i⟩,qI,qI,qI,qI,qI,qI,⟨xs,n,j.set⟩,l⟩
def Qqk.Qa{f:NX}(k:Qqk w a s b c d x f){v:Int}(e:Nat)(o:v=e)(p:d<=e):Qqk (w.setCell (O a 3)<|I v) a s b c e x f:=by
 let⟨⟨z,A,B,j,l⟩,C,D,r,t,u,y,⟨xs,h,m⟩,n⟩:=k;subst o;have q:(w.setCell (O a 3)<|I e).ownsRow (a+1) 151 9 x f.l.length xs:=ownsRow_setCell_below h qD _;exact⟨⟨qI,qI,qI,j,l⟩,qI,qI,qI,qI,qI,qI,⟨xs,q,m.set⟩,λg i hd=>ww.mono (n g i hd) p⟩
def Qqk.Iy{g:NX}(f:Qqk w a s b c d x g){v:Int}(e:Nat)(h:v=e:=by omega)(i:e<=s.size:=by omega):Qqk (w.setCell (O a 1)<|I v) a s e c d x g:=
 Mv.Qqp (f.rc.ee.set e h) f i
def apb(a8:Hj i)(e d a b:Nat)(g:NX)(c:ag)(r:af)(h:St)(s:ae)(a4:Qqk s e c d a b r g)(bQ:g.l.length<=2*d)(a2:∀L,g.X L->L<s.heap.size)(bP:d<c.size)
  (f:run c d=some h) (t:h.o=a) (a3:h.a=b) (a5:step h (au c d)=kh h 40) (bO:c.size-d<i+1):
  Calls prog 220 #[.pointer<|some ⟨e,0,none⟩] s λl b0=>∃(M:Int)(B:Bool),l=.returned (.tuple #[.int .i64 M,.bool B])/\ul e c d a g r s (λ_ h=>h.m=1) (cp (ml c i ⟨d+1,b+1,g.l⟩).1 ((ml c i ⟨d+1,b+1,g.l⟩).1.H+1)<|qc (ml c i ⟨d+1,b+1,g.l⟩).2 b) M B b0:=by
 have qa:=J a2;have m:=a4;have T:=J f;have U:=J a5;have j:=Me f;have b1:a<=5:=by rw[<-t];exact j.2.1
 have b2:b<=9:=by rw[<-a3];exact j.2.2.1
 let⟨⟨bU,bV,bW,b4,b5⟩,bI,bJ,bK,bL,bM,bN,C,a1⟩:=a4;have aD:=J a8;clear C f a5 j a8 a1 a2;by_cases F:a=5\/b=9
 .have n:Y (kw c d):=by
   refine kw.here T Q (λ_=> ?_) (λl=>Q);rw[U.out,kh,G rfl,G]
  by_cases j:a=5
  .subst j;clear F;go_in;go_wp21;go_ret2;exact⟨0,false,rfl,.np m m.rc.ee n⟩
  have aF:((a:Int)==5)=false:=qB
  have k:b=9:=Q
  subst k;clear F;go_in;go_wp21;go_ret2;exact⟨0,false,rfl,.np m m.rc.ee n⟩
 have aF:((a:Int)==5)=false:=qB
 have aS:((b:Int)==9)=false:=qB
 have R:Y (run c (d+1)=some ⟨0,a+1,b+1,h.l⟩):=by
  rw[Y,lf T.out,U.out,kh,G rfl,N,t,a3]
 clear F;have j:=((m.Iy (v:=(d:Int)+1) (d+1)).Lq (v:=(a:Int)+1) (a+1) Q).Qa (v:=(b:Int)+1) (b+1) Q Q;have k:=(((eh.refl e s).setCell 1<|I<|(d:Int)+1).setCell 2<|I<|(a:Int)+1).setCell 3<|I<|(b:Int)+1;have D:Y _:=j;have q:Y _:=k;go_in;go_wp21;go_call aD e (d+1) (a+1) (b+1) g c r _ _ D Q (by rw[q.out.size];exact qa) R rfl rfl rfl Q as l bX ⟨M,B,rfl,aT⟩;obtain⟨rfl,H,z,A,k,v,P,o,p,j,aY,a9,bS,bT,aA,aB,rfl,b8,V⟩|⟨rfl,H,o,p,j⟩:=aT
 .have w:=(eh.fr q r).trans p;have W:=J j;have aG:=J V;have X:=J aB;have aH:Y (b<z):=by
   have:=aew R Q j;rw[a9]at this;exact this
  have Z:=J aA;have aI:=o.rc.le;go_wp21;go_call Nk e c H 41 _ o.rc Q as l w3 ⟨L,E,rfl,S,aJ⟩;obtain⟨rfl,K,u⟩|⟨rfl,K,u⟩:=aJ
  .let⟨bR,aV⟩:=Qqw (c:=41) K;have aE:v.m=1\/v.m=2:=by
    obtain x|x:=Z.1.1
    .exact .inl x.1
    exact .inr x
   have aK:Y (run c E=some ⟨1,a,z,v.l⟩):=by
    rw[u,Y,lf W.out,aV,aiu aE,aY,a9];rfl
   have y:=Mv.Qqp S o;have aZ:=y;let⟨⟨C,a1,b3,bA,bD⟩,b6,b7,aS,bE,bF,bG,a0,a6⟩:=aZ;have aL:Y (k.ownBlock≠some w3.heap.size):=by
    let⟨xs,t,_⟩:=a0;exact λl=>by have:=(t.lt _ l).2;omega
   have aM:=y.Lq (v:=(a:Int)) a rfl;have aN:eh e w3 (w3.setCell (O e 2)<|I a):=(eh.refl e w3).setCell 2 _;go_wp21;have a0:=λaW=>(bp (w3.setCell (O e 2)<|I a).heap.size<|w3.setCell (O e 2)<|I a).alloc ah aW
   have bH:e<w3.heap.size:=dw w3 _ C;have aO:(w3.setCell (O e 2)<|I a).heap.size=w3.heap.size:=kg _ _ _;have aP:¬A.X w3.heap.size:=λf=>by
    rw[X.out]at f;have a6:=qa _ f;have a7:=(w.trans<|Mv.Qqn S k).size;omega
   refine(Bi e E a z A c k _ (Below.Qqq (a0 _) aM) Q (qc P b) 3 _ 0 0 1 _ _ 0 0 0 0 rfl rfl (by unfold na qc;simp) rfl rfl S4.zero (.inr ⟨w3.heap.size,rfl,Q,aL,aP,λaU aC a7=> ?_⟩) (ay 1) ⟨by unfold qc;simp,λx a6=>by unfold qc at a6;simp at a6;omega,λ_=>⟨P,rfl⟩,λf=>by unfold qc at f;simp at f,λf=>by unfold qc at f;simp at f,λ_=>aH⟩).mono ?_
   .have aQ:aU=0:=by
     have:=(jy.1 a7).1;simp[qc]at this;exact this
    subst aQ;have aR:aC=P:=by simpa[qc]using a7.symm
    subst aR;have:=aa3 (w3.setCell (O e 2)<|I a) (I aC) 3;rw[aO]at this;exact this
   rintro l bY ⟨aQ,rfl,aR,aX⟩;go_wp21;go_ret2;exact⟨_,true,rfl,.inl ⟨rfl,_,_,_,aQ,_,A.l.length,aR,(((w.trans<|Mv.Qqn S k).trans<|eh.fr aN k).trans<|Below.Qqr (a0 _) k).trans aX,aK,rfl,rfl,Q,by rw[oc];omega,rfl,X,rfl,by rw[oc];omega,by rw[aG.out,u];rfl⟩⟩
  have n:Y (kw c E):=by
   rw[u];refine kw.here W aI (λy=>aiw Z y<|.inl K)<|λ_=> ?_;have:v.o≠0:=Q
   simp[whole,this]
  have y:=(w.trans<|Mv.Qqn S k).below m;go_wp21;go_ret2;exact⟨_,false,rfl,.inr ⟨rfl,E,n,S.c1,y⟩⟩
 have n:=J o;have y:=((eh.fr q r).below m).trans j;have u:=J p;go_wp21;go_ret2;exact⟨_,false,rfl,.inr ⟨rfl,H,n,u,y⟩⟩
section
def Ym(s:ag)(a:Nat)(b:ae)(c:Rc b i s a):
  Calls prog 149 #[.pointer<|some ⟨i,0,none⟩] b λd e=>d=.returned (.bool<|ue s a)/\Mv i b e a:=by
 go_call au6 as d e ⟨rfl,n,rfl⟩;exact⟨rfl,c.ee.drewN n⟩
def Jx{b:St}(c:bn mb a=false)(d:a≠40)(e:a≠91)(f:a≠92):kh b a=some ⟨1,b.o,b.a,b.l⟩:=by
 rw[kh,N d,N e,N f,N<|by rw[c];simp]
def Yp:step ⟨3,i,j,k⟩ m=if bn sx m=true then some ⟨1,i,j,k⟩else none:=rfl
section
variable {ch:bs->bs×Nat} {s:ag} {p:bs}
def afh(a:au s p.H=94):qv ch s p=cp p (p.H+1) (gb 1 dp):=by simp only[qv,a];rfl
def afc(a:au s p.H=36):qv ch s p=cp p (p.H+1) (gb 2 dp):=by simp only[qv,a];rfl
def afe(a:au s p.H=46):qv ch s p=cp p (p.H+1) (gb 0 λ_=>true):=by simp only[qv,a];rfl
def afd(a:au s p.H=40):qv ch s p=cp (ch ⟨p.H+1,p.g+1,p.l⟩).1 ((ch ⟨p.H+1,p.g+1,p.l⟩).1.H+1) (qc (ch ⟨p.H+1,p.g+1,p.l⟩).2 p.g):=by simp only[qv,a];rfl
def aff(a:au s p.H=91):qv ch s p=cp p (sh s p.H).1 (gb 0 (sh s p.H).2):=by simp only[qv,a];rfl
def afg(a:au s p.H=92):qv ch s p=cp p (p.H+2) (gb 0<|kx dp (val<|au s<|p.H+1)<|val<|au s<|p.H+1):=by simp only[qv,a];rfl
def afi(h:au s p.H=a)(b:a≠94)(c:a≠36)(d:a≠46)(e:a≠40)(f:a≠91)(g:a≠92):qv ch s p=cp p (p.H+1) (gb 0<|kx dp a a):=by
 simp only[qv,h];rw[N b,N c,N d,N e,N f,N g]
end
structure Cl(N:Nat)(w:ae)(b i o g:Nat)(n:NX)(s:ag)(nv:af)(st:St):Prop where
 rd:Qqk w b s i o g nv n
 n2:n.l.length<=2*i
 X:∀q,n.X q->q<w.heap.size
 run:run s i=some st
 o:st.o=o
 a:st.a=g
 m2:st.m<=2
 st:st.m=0\/ue s i=true
 N:s.size-i<N+1
def Wd(aM:Hj i)(g a m n:Nat)(d:NX)(s:ag)(e:af)(b:St)(S:ae)(b0:Cl i S g a m n d s e b):
  Calls prog 187 #[.pointer<|some ⟨g,0,none⟩] S λf b5=>∃(A:Int)(u:Bool),f=.returned (.tuple #[.int .i64 A,.bool u])/\ul g s a m d e S (λ_ b=>b.m=1) (qv (ml s i) s ⟨a,n,d.l⟩) A u b5:=by
 let⟨t,b2,o,c,B,C,aL,a5,b1⟩:=b0;have aP:=J o;clear o;generalize o:qv (ml s i) s ⟨a,n,d.l⟩=aC;have F:=J o;clear o;have a3:=J c;have aO:=J aM;have a6:=t.rc.le;have b6:=t.rc.li;clear c aM;rcases df (ue s a)with r|r
 .have a4:=J r;have aK:a<s.size:=by simp[ue]at r;exact r.1
  have D:Y (bn mb (au s a)=false):=by simp[ue]at r;exact r.2
  have E:=J aK;have b3:((s[a]).toNat:Int)=(au s a:Int):=oz s a aK;have aQ:=ms s a;obtain⟨c,o⟩:∃c,au s a=c:=⟨_,rfl⟩;have w:=J o;rw[o]at b3 aQ D;have L:Y (run s (a+1)=kh b c):=by
   rw[Y,lf a3.out,w.out,Mm aL D.out]
  have b8:(0:Int)<=a:=Q
  have b9:(a:Int)<s.size:=Q
  clear r o a5;go_in;go_wp21;refine(Ym g s a _ t.rc).mono ?_;rw[a4.out];rintro f aN ⟨rfl,M⟩;have aD:=Mv.Qqp M t a6;have aR:=Mv.Qqn M e;have b4:=M.rc t.rc a6;let⟨x,K,P,o,b7⟩:=b4;clear M o;go_wp21;go_quiet (fail);have z:=Qqk.drewN aD nq;have q:=aR.trans<|Mv.Qqn (aD.rc.ee.drewN nq) e;clear x K P;generalize aN.drewN nq=bA at z q;by_cases aE:c=94
  .subst aE;have o:Y (run s (a+1)=some ⟨1,b.o,b.a,b.l⟩):=by rw[Y,L.out,Jx D.out qG qG qG]
   go_wp21;go_call Qh g a m n d s e _ z Q E 0 1 dp 0 0 0 0 Q rfl S4.zero as f a0 ⟨k,rfl,x,H⟩;go_wp21;go_ret2;exact⟨_,true,rfl,.inl ⟨rfl,_,_,_,k,_,d.l.length,x,q.trans H,o,B,C,Q,by rw[oc];omega,rfl,rfl,rfl,by rw[oc];omega,by rw[<-F.out,afh w.out];rfl⟩⟩
  by_cases aF:c=36
  .subst aF;have o:Y (run s (a+1)=some ⟨1,b.o,b.a,b.l⟩):=by rw[Y,L.out,Jx D.out qG qG qG]
   go_wp21;go_call Qh g a m n d s e _ z Q E 1 2 dp 0 0 0 0 Q rfl S4.zero as f a0 ⟨k,rfl,x,H⟩;go_wp21;go_ret2;exact⟨_,true,rfl,.inl ⟨rfl,_,_,_,k,_,d.l.length,x,q.trans H,o,B,C,Q,by rw[oc];omega,rfl,rfl,rfl,by rw[oc];omega,by rw[<-F.out,afc w.out];rfl⟩⟩
  by_cases aG:c=46
  .subst aG;have o:Y (run s (a+1)=some ⟨1,b.o,b.a,b.l⟩):=by rw[Y,L.out,Jx D.out qG qG qG]
   go_wp21;go_call Qqi 0 0 0 0 _ _ S4.zero as f w3 ⟨⟨W,X,K,Z,rfl,l⟩,y⟩;have P:=J l;clear l;go_wp21;go_call Qh g a m n d s e _ (Below.Qqq y z) Q E 2 0 (λ_=>true) W X K Z Q rfl P as f a0 ⟨k,rfl,x,H⟩;go_wp21;go_ret2;exact⟨_,true,rfl,.inl ⟨rfl,_,_,_,k,_,d.l.length,x,(q.trans<|Below.Qqr y e).trans H,o,B,C,Q,by rw[oc];omega,rfl,rfl,rfl,by rw[oc];omega,by rw[<-F.out,afe w.out];rfl⟩⟩
  by_cases a1:c=40
  .subst a1;go_wp21;go_call apb i aO g a m n d s e b _ z b2 (λR r=>ew (aP R r) q.size) E a3 B C (by rw[w.out];exact Mm aL D) b1 as f w3 ⟨A,u,rfl,qa⟩;have o:Y (ul g s a m d e S (λ_ b=>b.m=1) aC A u w3):=by
    have:=ul.after t q ah ah rfl qa;rw[<-F.out,afd w.out];exact this
   clear qa;go_wp21;go_ret2;exact⟨A,u,rfl,o⟩
  by_cases a7:c=91
  .subst a7;have T:Y (run s (a+1)=some ⟨4,m,n,b.l⟩):=by rw[Y,L.out,<-B,<-C];rfl
   go_wp21;go_call Yb g a m n b.l d s e _ z Q E T as f w3 ⟨A,u,rfl,qa⟩;have o:Y (ul g s a m d e S (λ_ b=>b.m=1) aC A u w3):=by
    have:=ul.after t q ah ah rfl qa;rw[<-F.out,aff w.out];exact this
   clear qa;go_wp21;go_ret2;exact⟨A,u,rfl,o⟩
  by_cases a8:c=92
  .subst a8;have T:Y (run s (a+1)=some ⟨3,b.o,b.a,b.l⟩):=by rw[Y,L.out];rfl
   go_wp21;go_call acd g s a 0 _ z.rc E Q as f w3 ⟨v,u,j,rfl,U,aZ⟩;obtain⟨aI,rfl,R,rfl⟩|⟨aI,rfl,R,rfl,V⟩|⟨aI,rfl,R,V,aJ,aY,aA⟩:=aZ
   .omega
   .have a2:Y (kw s j):=by
     rw[R];refine kw.here T Q (λa9=> ?_) (λ_=>Bt qD qD);have aB:¬(bn sx (au s<|a+1)=true):=λaB=>V ⟨a9,aB,ey _⟩
     rw[Yp,N aB]
    have aB:=(q.trans<|Mv.Qqn U e).below t;clear V;go_wp21;go_ret2;exact⟨_,false,rfl,.inr ⟨rfl,j,a2,U.c1,aB⟩⟩
   have aS:Y (run s j=some ⟨1,b.o,b.a,b.l⟩):=by
    rw[R,Y,lf T.out,Yp,G aJ]
   have aB:v<=255:=by rw[aA];exact Mp<|ms s<|a+1
   have aT:j<=s.size:=Q
   have aU:=Mv.Qqp U z aT;have aV:=q.trans<|Mv.Qqn U e;have aW:=J aA;have aX:=J R;clear V aJ aY aA;go_wp21;go_call Qqj 0 0 0 0 dp v v _ S4.zero aB aB as f w4 ⟨⟨W,X,K,Z,rfl,l⟩,aH⟩;have P:=J l;clear l;go_wp21;go_call Bi g j m n d s e _ (Below.Qqq aH aU) Q (gb 0<|kx dp v v) 2 0 0 0 0 none 0 W X K Z rfl rfl rfl rfl rfl P (.inl rfl) ah (Na Q)as f a0 ⟨k,rfl,x,H⟩;go_wp21;go_ret2;exact⟨_,true,rfl,.inl ⟨rfl,_,_,_,k,_,d.l.length,x,(aV.trans<|Below.Qqr aH e).trans H,aS,B,C,Q,by rw[oc];omega,rfl,rfl,rfl,by rw[oc];omega,by rw[<-F.out,afg w.out,aW.out,aX.out];rfl⟩⟩
  have R:((c:Int)==94)=false:=qB
  have U:((c:Int)==36)=false:=qB
  have V:((c:Int)==46)=false:=qB
  have aA:((c:Int)==40)=false:=qB
  have aB:((c:Int)==91)=false:=qB
  have aH:((c:Int)==92)=false:=qB
  have o:Y (run s (a+1)=some ⟨1,b.o,b.a,b.l⟩):=by rw[Y,L.out,Jx D.out a1 a7 a8]
  go_wp21;go_call Qqj 0 0 0 0 dp (s[a]).toNat (s[a]).toNat _ S4.zero Q Q as f w3 ⟨⟨W,X,K,Z,rfl,l⟩,y⟩;have P:Y (S4 W X K Z<|kx dp c c):=by
   have f:(s[a]).toNat=c:=Q
   rw[f]at l;exact l
  clear l;clear R U V aA aB aH;go_wp21;go_call Qh g a m n d s e _ (Below.Qqq y z) Q E 2 0 (kx dp c c) W X K Z Q rfl P as f a0 ⟨k,rfl,x,H⟩;go_wp21;go_ret2;exact⟨_,true,rfl,.inl ⟨rfl,_,_,_,k,_,d.l.length,x,(q.trans<|Below.Qqr y e).trans H,o,B,C,Q,by rw[oc];omega,rfl,rfl,rfl,by rw[oc];omega,by rw[<-F.out,afi w.out aE aF aG a1 a7 a8];rfl⟩⟩
 have a4:=J r;have a2:Y (kw s a):=by
  have q:b.m=0:=by
   obtain h|h:=a5
   .exact h
   rw[r]at h;cases h
  refine kw.here a3 a6 (λa9=> ?_) (λ_=>Bt);have c:bn mb (au s a)=true:=by simpa[ue,a9]using r
  have o:=c;rw[Cz]at o;rw[step,G q];rw[kh,N,N,N,G c]
 clear r a5;go_in;go_wp21;refine(Ym g s a _ t.rc).mono ?_;rw[a4.out];rintro f aN ⟨rfl,M⟩;go_wp21;go_ret2;exact⟨0,false,rfl,.np t M a2⟩
end
def Qq(e:d=42\/d=43\/d=63):step ⟨1,a,b,c⟩ d=some ⟨2,a,b,c⟩:=by
 have f:bn xr d=true:=by rw[Eh];exact e
 show nr ⟨1,a,b,c⟩ d=_
 rw[nr,G ⟨rfl,f⟩]
def Qp:step ⟨1,a,b,c⟩ 123=some ⟨11,a,b,0⟩:=by
 have d:¬(bn xr 123=true):=by rw[Eh];omega
 show nr ⟨1,a,b,c⟩ 123=_
 rw[nr,N<|λe=>d e.2,G ⟨rfl,rfl⟩]
def asb{e:bs->bs×Nat}{f:bs}{d:List Nd}(g:qv e s f=(⟨a,b,d⟩,c)):xc e s f=
  if pk s a=42 then cp ⟨a,b,d⟩ (a+1) (gr c 0<|-1)
  else if pk s a=43 then cp ⟨a,b,d⟩ (a+1) (gr c 1<|-1)
  else if pk s a=63 then cp ⟨a,b,d⟩ (a+1) (gr c 0 1)
  else if pk s a=123 then(if pk s (a+2)=44 then cp ⟨a,b,d⟩ (a+5) (gr c (au s (a+1)-48) ((au s (a+3)-48:Nat):Int))else cp ⟨a,b,d⟩ (a+3) (gr c (au s (a+1)-48) ((au s (a+1)-48:Nat):Int)))
  else(⟨a,b,d⟩,c):=by
 rw[xc,g]
def Wr(aM:Hj i)(d y h a1:Nat)(z:NX)(a:ag)(a2:af)(aN:St)(a3:ae)(M:Cl i a3 d y h a1 z a a2 aN):
  Calls prog 148 #[.pointer<|some ⟨d,0,none⟩] a3 λe b7=>∃(aB:Int)(a5:Bool),e=.returned (.tuple #[.int .i64 aB,.bool a5])/\ul d a y h z a2 a3 (Nb a) (xc (ml a i) a ⟨y,a1,z.l⟩) aB a5 b7:=by
 generalize b:xc (ml a i) a ⟨y,a1,z.l⟩=aP;have U:=J b;have aC:=J M;have aQ:=J M.rd;have bO:=M.n2;have bN:=M.rd.rc.li;go_in;go_wp21;go_call Wd i aM d y h a1 z a a2 aN _ aC as e b8 ⟨aB,a5,rfl,b4⟩;obtain⟨rfl,b,o,j,g,A,P,t,v,qa,a6,a7,bP,bQ,a8,a9,rfl,B,aD⟩|⟨rfl,b,t,v,qa⟩:=b4
 .have V:=J t;have aE:=J v;have C:Y (run a b=some ⟨1,h,o,A.l⟩):=by
   let⟨n,p,c,m⟩:=A;simp only at a6 a7 a8;rw[Y,qa,a6,a7,a8]
  have W:=t.rc.le;have D:Y _:=asb aD;have E:=J a9;have aF:Y (∀c,j.X c->c<b8.heap.size):=λc n=>by
   rw[a9]at n;exact ew (aC.X c n) v.size
  by_cases F:pk a b=(42:Nat)
  .let⟨a4,m⟩:=Qqw F;have r:Y (run a (b+1)=some ⟨2,h,o,A.l⟩):=by rw[Y,lf C.out,m,Qq<|.inl rfl]
   have p:=J F;go_wp21;go_call Qqu d a b 42 _ V.rc Q p as e aO ⟨rfl,f⟩;go_wp21;go_call Lt d (b+1) h o j a g P 0 (-1) _ (Mv.Qqp f V Q) Q (by rw[f.only.size];exact aF) B Q Q (.inl rfl)as e w3 ⟨H,rfl,S,T⟩;go_wp21;go_ret2;exact⟨_,true,rfl,.inl ⟨rfl,_,_,_,H,_,j.l.length,S,(aE.trans<|Mv.Qqn f g).trans T,r,rfl,rfl,Q,by rw[oc];omega,.inr rfl,E,rfl,by rw[oc];omega,by rw[<-U.out,D.out,G (show pk a b=42 from p.out)];rfl⟩⟩
  have p:=J F;go_wp21;go_call Qqv d a b 42 _ V.rc Q p as e aO ⟨rfl,f⟩;have X:=J<|Mv.Qqp f V W;have aG:Y (∀c,j.X c->c<aO.heap.size):=λc n=>by rw[f.only.size];exact aF c n
  have aH:=J<|aE.trans<|Mv.Qqn f g;by_cases K:pk a b=(43:Nat)
  .let⟨a4,m⟩:=Qqw K;have r:Y (run a (b+1)=some ⟨2,h,o,A.l⟩):=by rw[Y,lf C.out,m,Qq<|.inr<|.inl rfl]
   have q:=J K;go_wp21;go_call Qqu d a b 43 _ X.rc Q q as e w3 ⟨rfl,k⟩;go_wp21;go_call Lt d (b+1) h o j a g P 1 (-1) _ (Mv.Qqp k X Q) Q (by rw[k.only.size];exact aG) B Q Q (.inl rfl)as e w4 ⟨H,rfl,S,T⟩;go_wp21;go_ret2;exact⟨_,true,rfl,.inl ⟨rfl,_,_,_,H,_,j.l.length,S,(aH.trans<|Mv.Qqn k g).trans T,r,rfl,rfl,Q,by rw[oc];omega,.inr rfl,E,rfl,by rw[oc];omega,by rw[<-U.out,D.out,N (show ¬pk a b=42 from p.out),G (show pk a b=43 from q.out)];rfl⟩⟩
  have q:=J K;go_wp21;go_call Qqv d a b 43 _ X.rc Q q as e w3 ⟨rfl,k⟩;have Z:=J<|Mv.Qqp k X W;have aI:Y (∀c,j.X c->c<w3.heap.size):=λc n=>by rw[k.only.size];exact aG c n
  have aJ:=J<|aH.trans<|Mv.Qqn k g;by_cases L:pk a b=(63:Nat)
  .let⟨a4,m⟩:=Qqw L;have r:Y (run a (b+1)=some ⟨2,h,o,A.l⟩):=by rw[Y,lf C.out,m,Qq<|.inr<|.inr rfl]
   have s:=J L;go_wp21;go_call Qqu d a b 63 _ Z.rc Q s as e w4 ⟨rfl,l⟩;go_wp21;go_call Lt d (b+1) h o j a g P 0 1 _ (Mv.Qqp l Z Q) Q (by rw[l.only.size];exact aI) B Q Q (.inr Q)as e aA ⟨H,rfl,S,T⟩;go_wp21;go_ret2;exact⟨_,true,rfl,.inl ⟨rfl,_,_,_,H,_,j.l.length,S,(aJ.trans<|Mv.Qqn l g).trans T,r,rfl,rfl,Q,by rw[oc];omega,.inr rfl,E,rfl,by rw[oc];omega,by rw[<-U.out,D.out,N (show ¬pk a b=42 from p.out),N (show ¬pk a b=43 from q.out),G (show pk a b=63 from s.out)];rfl⟩⟩
  have s:=J L;go_wp21;go_call Qqv d a b 63 _ Z.rc Q s as e w4 ⟨rfl,l⟩;have a0:=J<|Mv.Qqp l Z W;have aT:Y (∀c,j.X c->c<w4.heap.size):=λc n=>by rw[l.only.size];exact aI c n
  have aK:=J<|aJ.trans<|Mv.Qqn l g;by_cases R:pk a b=(123:Nat)
  .let⟨a4,m⟩:=Qqw R;have r:Y (run a (b+1)=some ⟨11,h,o,0⟩):=by rw[Y,lf C.out,m,Qp]
   have w:=J R;go_wp21;go_call Qqu d a b 123 _ a0.rc Q w as e aA ⟨rfl,u⟩;have aU:=J (Mv.Qqp u a0);have aV:Y (∀c,j.X c->c<aA.heap.size):=λc n=>by rw[u.only.size];exact aT c n
   have aW:=J<|aK.trans<|Mv.Qqn u g;go_wp21;go_call amf d (b+1) h o j a g P _ aU Q aV B r as e b9 ⟨bL,aX,rfl,aL⟩;have aY:Y (ul d a y h z a2 a3 (Nb a) aP bL aX b9):=by
    have b5:=ul.after aQ aW (i1:=b+1) Q Q E aL;obtain⟨rfl,b6,aZ,b0,aR,aS,bM,bA,bD,bE,bF,bG,bH,bI,bJ,bK,b1,b2,b3⟩|x:=b5
    .exact .inl ⟨rfl,b6,aZ,b0,aR,aS,bM,bA,bD,bE,bF,bG,bH,bI,.inr bJ,bK,b1,b2,by rw[<-b3,<-U.out,D.out,N (show ¬pk a b=42 from p.out),N (show ¬pk a b=43 from q.out),N (show ¬pk a b=63 from s.out),G (show pk a b=123 from w.out)];rfl⟩
    exact .inr x
   go_wp21;go_ret2;exact⟨_,_,rfl,aY⟩
  have w:=J R;go_wp21;go_call Qqv d a b 123 _ a0.rc Q w as e aA ⟨rfl,u⟩;go_wp21;go_ret2;exact⟨_,true,rfl,.inl ⟨rfl,_,_,_,g,_,P,Mv.Qqp u a0 W,aK.trans<|Mv.Qqn u g,C,rfl,rfl,Q,Q,.inl ⟨rfl,p,q,s,w⟩,E,rfl,B,by rw[<-U.out,D.out,N (show ¬pk a b=42 from p.out),N (show ¬pk a b=43 from q.out),N (show ¬pk a b=63 from s.out),N (show ¬pk a b=123 from w.out)]⟩⟩
 have n:=J t;have c:=J qa;have m:=J v;go_wp21;go_ret2;exact⟨_,false,rfl,.inr ⟨rfl,b,n,m,c⟩⟩
structure Mk(b:Nat)(w w':ae)(j:Nat):Prop where
 os:w'.os=w.os
 tape:w'.tape=w.tape
 output:w'.output=w.output
 size:w.heap.size<=w'.heap.size
 block:∀k,k<w.heap.size->k≠b->w'.heap[k]?=w.heap[k]?
 c1:w'.cell? (O b 1)=some (I j)
 cell:∀k,k≠1->w'.cell? (O b k)=w.cell? (O b k)
 cd:∀k,w'.frozen? (O b k)=w.frozen? (O b k)
def Mk.mv(c:Mv a w u b):Mk a w u b:=
 ⟨c.only.os,c.only.tape,c.only.output,by rw[c.only.size];exact ah,λe _ d=>c.only.block e d,c.c1,c.cell,c.cd⟩
def Mk.trans{b a h:Nat}{i j k:ae}(c:Mk b i j a)(d:Mk b j k h):Mk b i k h:=
 ⟨d.os.trans c.os,d.tape.trans c.tape,d.output.trans c.output,bq c.size d.size,λa e f=>(d.block a (ew e c.size) f).trans<|c.block a e f,d.c1,λa g=>(d.cell a g).trans<|c.cell a g,λa=>(d.cd a).trans<|c.cd a⟩
def Mk.below(c:Mk a w u b)(d:Below u.heap.size u v):Mk a w v b:=by
 have g:a<u.heap.size:=dw u _ c.c1;exact⟨d.os.trans c.os,d.tape.trans c.tape,d.output.trans c.output,bq c.size d.size,λe f h=>(d.block e<|ew f c.size).trans<|c.block e f h,(d.cell (p:=O a 1) g).trans c.c1,λe f=>(d.cell (p:=O a e) g).trans<|c.cell e f,λe=>(d.frozen (p:=O a e) g).trans<|c.cd e⟩
def Mk.alloc{a b:Nat}{d e:ae}(f:Mk a d e b)(c:Obj):Mk a d (e.alloc c) b:=f.below<|(bp _ _).alloc ah c
def Mk.drewN(c:Mk a w u b)(d:Nat):Mk a w (u.drewN d) b:=⟨c.os,c.tape,c.output,c.size,c.block,c.c1,c.cell,c.cd⟩
def Mk.fi(e:Mk a w u b)(o:w.heap.size<=c)(p:a<w.heap.size)(j:af):Mk a w (u.setCell (O c d) j) b:=by
 have k:a≠c:=Q
 have i:∀h,(u.setCell (O c d) j).cell? (O a h)=u.cell? (O a h):=λh=>jm (h:=λg=>k<|by injection g with g _ _;exact g.symm) ..
 exact⟨e.os,e.tape,e.output,by rw[kg];exact e.size,λf m l=>by rw[er _ _ _ _ qC];exact e.block f m l,(i 1).trans e.c1,λf n=>(i f).trans<|e.cell f n,λf=>by rw[jf];exact e.cd f⟩
def Mk.ee{b c:Nat}{a:ae}{e:ag}(d:Rc a b e c):Mk b a a c:=.mv d.ee
def Mk.set{a i:Nat}(c:Mk a w u i){v:Int}(b:Nat)(d:v=b:=by omega):Mk a w (u.setCell (O a 1)<|I v) b:=c.trans<|.mv<|.put c.c1 b d
def Mk.rc(e:Mk a w u c)(d:Rc w a s b)(f:c<=s.size:=by omega):Rc u a s c:=
 ⟨by rw[e.cell 0 Q];exact d.c0,e.c1,by rw[e.cd];exact d.f1,f,d.li⟩
def Rc.lt(c:Rc w a s b):a<w.heap.size:=dw w _ c.c0
def Rc.below{b f:ae}{c:Nat}{e:ag}{d:Nat}(a:Rc b c e d)(g:Below b.heap.size b f):Rc f c e d:=((Mk.ee a).below g).rc a a.le
def Rc.alloc{e:ae}{a:Nat}{d:ag}{b:Nat}(f:Rc e a d b)(c:Obj):Rc (e.alloc c) a d b:=Rc.below f<|(bp _ _).alloc ah c
def ho{i:Nat}(b:pk s i≠-1:=by omega):i<s.size/\pk s i=(au s i:Int):=by
 by_cases a:i<s.size
 .exact⟨a,fh a⟩
 exact cb (qj a) b
def asq(n:Rc W i S j):
  Calls prog 253 #[.pointer<|some ⟨i,0,none⟩] W λh k=>h=.returned (.tuple #[.agg #[.int .i64 (th S j).2.1.jw,.int .u8 ((th S j).2.1.byte:Nat)],.bool (th S j).2.2])/\Mk i W k (th S j).1:=by
 have b:=J n;have d:=Rc.lt n;clear n;have l:Y (∀o,Rc (W.alloc o) i S j):=λo=>Rc.alloc b.out o
 by_cases e:pk S j=-1
 .have f:Y (th S j=(j,⟨0,0⟩,false)):=by simp[Y,th,e]
  have g:=J e;clear e;go_in;go_wp2_with (go_at_call 110;refine(iz i S j _<|l.out _).mono ?_;rw[g.out];rintro h k ⟨rfl,p,rfl⟩);rw[f.out];go_returns;exact⟨rfl,by first|exact((((Mk.ee b.out).alloc _).drewN _).fi ah d _).fi ah d _|exact(((Mk.ee b.out).alloc _).drewN _)⟩
 obtain⟨y,c⟩:=ho e;have r:=ms S j;generalize m:au S j=a at c r;by_cases q:a=10
 .subst q;have f:Y (th S j=(j,⟨0,0⟩,false)):=by simp[Y,th,c]
  have g:=J c;clear e c m;go_in;go_wp2_with (go_at_call 110;refine(iz i S j _<|l.out _).mono ?_;rw[g.out];rintro h k ⟨rfl,p,rfl⟩);rw[f.out];go_returns;exact⟨rfl,by first|exact((((Mk.ee b.out).alloc _).drewN _).fi ah d _).fi ah d _|exact(((Mk.ee b.out).alloc _).drewN _)⟩
 have f:Y (th S j=(j+1,⟨-1,a⟩,true)):=by
  have:¬((a:Int)=10):=Q
  have s:¬((a:Int)=-1):=Q
  simp[Y,th,c,m,this,s]
 have g:=J c;have A:((a:Int)==-1)=false:=hh Q;have s:((a:Int)==10)=false:=hh Q;have x:(a:Int)<=255:=Q
 obtain⟨t,u,v,z,w⟩:=b.out;clear e c m;go_in;go_wp2_with (go_at_call 110;refine(iz i S j _<|l.out _).mono ?_;rw[g.out];rintro h k ⟨rfl,p,rfl⟩);rw[f.out];go_returns;exact⟨rfl,(((((Mk.ee b.out).alloc _).drewN _).set (j+1) Q).fi ah d _).fi ah d _⟩
def ans(s:Rc W i S k)(K:j<=9):
  Calls prog 252 #[.pointer<|some ⟨i,0,none⟩,.int .i64 j] W λc d=>c=.returned (.tuple #[.agg #[.int .i64 (qf S j k).2.1.jw,.int .u8 ((qf S j k).2.1.byte:Nat)],.bool (qf S j k).2.2])/\Mk i W d (qf S j k).1:=by
 have b:=J s;have n:=Rc.lt s;have A:=s.le;have D:=s.li;have m:Y (∀x,Rc (W.alloc x) i S k):=λx=>Rc.alloc b x
 have q:Y (∀{y:ae},Mk i W y k->Rc y i S k):=λv=>v.rc b b.le
 by_cases h:pk S k=-1
 have f:br S xp k=false:=by
  have:¬k<S.size:=λv=>by rw[fh v]at h;omega
  simp[br,this]
 have e:Y (qf S j k=(k,⟨0,0⟩,false)):=by rw[Y,qf,h,f];rfl
 have l:=J h;have o:=J f;rotate_left
 let⟨H,g⟩:=ho h;have E:=ms S k;generalize r:au S k=a at g E;have l:=J g;let⟨L,M,P,A,D⟩:=b.out;have F:(a:Int)<=255:=Q
 by_cases hd:49<=a/\a<=48+j
 have e:Y (qf S j k=(k+1,⟨(a:Int)-48,0⟩,true)):=by rw[Y,qf,g,G ⟨Q,Q⟩]
 let⟨u,w⟩:=hd;rotate_left
 have u:Y (¬(49<=pk S k/\pk S k<=48+(j:Int))):=by rw[Y,g];omega
 by_cases z:a=110
 subst z;have e:Y (qf S j k=(k+1,⟨-1,10⟩,true)):=by rw[Y,qf,N u.out,G<|by rw[g];rfl]
 have w:decide ((110:Int)<=48+(j:Int))=false:=qB
 rotate_left
 have U:((a:Int)==110)=false:=hh;have B:(a:Int)<49\/(49:Int)<=a/\48+(j:Int)<a:=Q
 rcases df (br S xp k)with f|f
 have e:Y (qf S j k=(k+1,⟨-1,a⟩,true)):=by rw[Y,qf,N u.out,N<|by rw[g];omega,G f,r]
 have o:=J f;obtain B|⟨B,w⟩:=B;rotate_left;rotate_left
 have e:Y (qf S j k=(k,⟨0,0⟩,false)):=by rw[Y,qf,N u.out,N<|by rw[g];omega,f];rfl
 have o:=J f;obtain B|⟨B,w⟩:=B
 all_goals
  go_in;go_wp2_with (first|(go_at_call 110;refine(iz i S k _<|m.out _).mono ?_;rw[l.out];rintro c d ⟨rfl,p,rfl⟩)|(go_at_call 161;refine(oj i S xp k _<|q.out<|((((Mk.ee b.out).alloc _).drewN _).alloc _)).mono ?_;rw[o.out];rintro c d ⟨rfl,t,rfl⟩));rw[e.out];go_returns;refine⟨rfl,?_⟩
  (repeat first|exact Mk.ee b|refine Mk.set (i:=k) ?_ (k+1) Q|refine Mk.fi ?_ Q n _|refine Mk.drewN ?_ _|refine Mk.alloc ?_ _)
def acb(c:k<=S.size:=by omega):(qf S j k).1<=S.size/\k<=(qf S j k).1:=by
 unfold qf;split
 .rename_i a;let⟨b,_⟩:=ho (s:=S) (i:=k);omega
 split
 .rename_i a;let⟨b,_⟩:=ho (s:=S) (i:=k);omega
 split
 .rename_i a;have:=vo a;omega
 omega
def Pv(d:k<=S.size):(ih S j k).1<=S.size/\k<=(ih S j k).1:=by
 unfold ih;split
 .rename_i a;let⟨b,_⟩:=ho (s:=S) (i:=k);omega
 split
 .rename_i a;let⟨b,_⟩:=ho (s:=S) (i:=k);have:=acb S j (k+1);omega
 unfold th;split
 .omega
 rename_i a;let⟨b,_⟩:=ho (s:=S) (i:=k)<|λc=>a<|.inl c;simp only;omega
def aga(e:k<=S.size)(a:(ih S j k).2.2=true):k<(ih S j k).1:=by
 unfold ih at*
 split
 .omega
 rename_i d;rw[N d]at a;split
 .rename_i b;let⟨c,_⟩:=ho (s:=S) (i:=k);have:=acb S j (k+1);omega
 rename_i b;rw[N b]at a;unfold th at*
 split
 .rename_i c;rw[G c]at a;cases a
 simp only;omega
def Ld{b:TypeId}(c:u.heap[w.heap.size]?=(w.alloc<|.cells #[x,y] b).heap[w.heap.size]?):
  u.cell? (O w.heap.size 0)=some x/\u.cell? (O w.heap.size 1)=some y/\u.frozen? (O w.heap.size 0)=false/\u.frozen? (O w.heap.size 1)=false:=by
 have a:=c.trans<|yyb w _;exact⟨yya u _ 0 _ b (0,0) a,yya u _ 1 _ b (0,0) a,by simp[World.frozen?,a],by simp[World.frozen?,a]⟩
def asn(c:Rc W i S k)(L:j<=9):
  Calls prog 243 #[.pointer<|some ⟨i,0,none⟩,.int .i64 j] W λb P=>b=.returned (.tuple #[.agg #[.int .i64 (ih S j k).2.1.jw,.int .u8 ((ih S j k).2.1.byte:Nat)],.bool (ih S j k).2.2])/\Mk i W P (ih S j k).1:=by
 have o:=Rc.lt c;have A:=c.le;have R:=c.li;have C:Y (∀B,Rc (W.alloc B) i S k):=λB=>Rc.alloc c B
 by_cases e:pk S k=((38:Nat):Int)
 .have p:Y (ih S j k=(k+1,⟨0,0⟩,true)):=by rw[Y,ih,G<|by rw[e];rfl]
  have q:=J e;go_in;go_wp2_with (go_at_call 100;go_call sr i S k 38 _ (C _) Q q as b d ⟨rfl,a⟩;have h:=((Mk.ee c).alloc _).trans<|.mv a;obtain⟨g,l,m,n⟩:=Ld (a.only.block W.heap.size Q);clear a);rw[p.out];exact yyd (v:=.tuple #[.agg #[I 0,.int .u8 0],.bool true]) (by simp[results,results243,go_sem, *]) rfl ⟨rfl,(h.fi ah o _).fi ah o _⟩
 have q:=J e;by_cases f:pk S k=((92:Nat):Int)
 have p:Y (ih S j k=qf S j (k+1)):=by rw[Y,ih,N<|by rw[f];decide,G<|by rw[f];rfl]
 have U:=(ho (s:=S) (i:=k)<|by rw[f];decide).1;rotate_left
 have p:Y (ih S j k=th S k):=by rw[Y,ih,N<|λb=>e<|by rw[b];rfl,N<|λb=>f<|by rw[b];rfl]
 all_goals
  have v:=J f;rw[p.out];first|(have:=U;generalize hF:qf S j (k+1)=u)|generalize hF:th S k=u
  have w:=J hF;obtain⟨M,⟨x,y⟩,z⟩:=u;go_in;go_wp21;go_call qq i S k 38 _ (C _) Q q as b d ⟨rfl,a⟩;have h:=((Mk.ee c).alloc _).trans<|.mv a;have r:Y (d.heap[W.heap.size]?=(W.alloc _).heap[W.heap.size]?):=a.only.block W.heap.size Q;obtain⟨g,l,m,n⟩:=Ld r;have H:W.heap.size<d.heap.size:=dw d _ g;go_wp21;first|(have:=U;go_call sr i S k 92 _ (h.rc c A) Q v as b t ⟨rfl,a⟩)|go_call qq i S k 92 _ (h.rc c A) Q v as b t ⟨rfl,a⟩
  have s:=h.trans<|.mv a;have D:Y (t.heap[W.heap.size]?=d.heap[W.heap.size]?):=a.only.block _ Q;have K:=a.only.size;go_wp21;first|(have:=U;refine(ans i S j (k+1) _ (s.rc c Q) L).mono ?_)|refine(asq i S k _<|s.rc c A).mono ?_
  rw[w.out];rintro b w3 ⟨rfl,a⟩;have E:=s.trans a;have F:=J ((a.block _ Q Q).trans D);let⟨g,l,m,n⟩:=Ld<|F.trans r;go_wp21;exact yyd (v:=.tuple #[.agg #[I x,.int .u8 y],.bool z]) (by simp[results,results243,go_sem, *]) rfl ⟨rfl,(E.fi ah o _).fi ah o _⟩
def da{f:TypeId}{xs:List af}(k:w.ownsRow a f b x c xs)(l:∀e,x.ownBlock=some e->u.heap[e]?=w.heap[e]?):u.ownsRow a f b x c xs:=by
 let⟨m,d⟩:=k;refine⟨m,?_⟩;obtain d|⟨g,i,j,h,n,o,p⟩:=d
 .exact .inl d
 exact .inr ⟨g,i,j,h,n,by rw[l g<|by rw[h];rfl];exact o,p⟩
def rq(ps:List Pc):List af:=ps.flatMap λp=> [I p.jw,Value.int .u8 p.byte]
def asi(b:List Pc)(a:Pc):rq (b++[a])=rq b++[I a.jw,Value.int .u8 a.byte]:=by simp[rq]
structure Ti(w wr:ae)(b j:Nat)(pv:af)(ps:List Pc):Prop where
 mv:Mk b w wr j
 own:wr.ownsRow w.heap.size 293 2 pv ps.length (rq ps)
def Ti.move{f wr g:ae}{h:List Pc}(d:Ti f wr a b x h)(k:a<f.heap.size)(i:Mk a wr g c):Ti f g a c x h:=
 ⟨d.mv.trans i,da d.own λe j=>i.block e (d.own.lt e j).2 (by have:=(d.own.lt e j).1;omega)⟩
def Ti.below{i wr b:ae}{c g:Nat}{d:af}{e:List Pc}(a:Ti i wr c g d e)(f:Below wr.heap.size wr b):Ti i b c g d e:=
 ⟨a.mv.below f,da a.own λh j=>f.block h (a.own.lt h j).2⟩
def Ti.grown{g:List Pc}{k:Pc}(f:Ti w u a b x g)(s:a<w.heap.size)
  (n:v.ownsRow w.heap.size 293 2 (aa c (g.length+1) d) (g.length+1) (rq g++[I k.jw,Value.int .u8 k.byte])) (h:u.grownBy v x.ownBlock):
  Ti w v a b (aa c (g.length+1) d) (g++[k]):=by
 have o:a<u.heap.size:=dw u _ f.mv.c1;have p:some a≠x.ownBlock:=λj=>by have:=(f.own.lt a j.symm).1;omega
 have l:=h.block a o p;have m:∀e,v.cell? (O a e)=u.cell? (O a e):=λe=>ac e l
 have r:∀e,v.frozen? (O a e)=u.frozen? (O a e):=λe=>ad e l
 refine⟨⟨h.os.trans f.mv.os,h.tape.trans f.mv.tape,h.output.trans f.mv.output,bq f.mv.size h.size,λe i q=> ?_,(m 1).trans f.mv.c1,λe i=>(m e).trans<|f.mv.cell e i,λe=>(r e).trans<|f.mv.cd e⟩,?_⟩
 .rw[h.block e (ew i f.mv.size) (λj=>by have:=(f.own.lt e j.symm).1;omega)];exact f.mv.block e i q
 rw[asi,ga];exact n
def apv:(prog.info? 293).map (λa=>(a.zero,a.size,a.bytes))=some (some<|.agg #[I 0,.int .u8 0],2,16):=qF
def Ni(w:ae)(lo hi:Nat)(ps:List Pc)(v:af):Prop:=
 v.oneCell'=true/\hi<=w.heap.size/\∀w':ae,(∀k,lo<=k->k<hi->w'.heap[k]?=w.heap[k]?)->w'.ownsRow lo 293 2 v ps.length (rq ps)
def arc(b:Array af)(c:TypeId)(d:W.heap.size=a):(W.alloc<|.cells b c).heap[a]?=some (.cells b c (0,0)):=by
 subst d;exact yyb W _
theorem av8(p:Rc W i S k)(a5:j<=9):
  Calls prog 230 #[.pointer<|some ⟨i,0,none⟩,.int .i64 j] W λc y=>∃(l:Option Addr)(m n:Nat),c=.returned (.tuple #[.slice l m n,.bool (ks S j k).2.2])/\Mk i W y (ks S j k).1/\(ks S j k).1<=S.size/\((ks S j k).2.2=true->Ni y W.heap.size y.heap.size (ks S j k).2.1 (.slice l m n)):=by
 have t:=Rc.lt p;have T:=p.le;have aF:=p.li;let⟨a6,U,V,X,Z⟩:=yyf apv;generalize hF:ks S j k=o;have a0:=J hF;go_in;go_wp21;go_loopw [6] (λa9 wr=>∃(a d:Nat)(b:List Pc),Ti W wr i a a9 b/\a<=S.size/\b.length+k<=a/\S.size+1<=d+a/\Y (o=qe S j d a b)) (λ_ wr=>S.size-xi wr i)
 .exact⟨k,S.size+1,[],⟨Mk.ee p,yyc _ _ _ _⟩,T,qD,Q,a0.symm⟩
 let⟨a,d,b,u,v,aC,aE,qa⟩:=hrel;have H:=u.mv.rc p v;have a1:=J<|pu u.mv.c1;have x:Y (o=if pk S a=47 then(a+1,b,true)else if(ih S j a).2.2=true then qe S j (d-1) (ih S j a).1 (b++[(ih S j a).2.1])else((ih S j a).1,[],false)):=by
  rw[Y,qa.out]
  conv=>lhs;rw[show d=(d-1)+1 from Q,qe]
 by_cases h:pk S a=((47:Nat):Int)
 .have C:=J h;let⟨s,_⟩:=ho (s:=S) (i:=a) (by rw[h];decide);have e:Y (o=(a+1,b,true)):=by rw[Y,x.out,G<|by rw[h];rfl]
  go_wp21;go_call sr i S a 47 _ H Q C as c aA ⟨rfl,g⟩;have f:=u.move t<|.mv g;go_wp21;go_ret2;rw[e.out];obtain⟨l,m,n,rfl⟩:∃l m n,u6=.slice l m n:=by
   obtain⟨c,_⟩|⟨_,_,_,c,_⟩:=f.own.2<;>exact⟨_,_,_,c⟩
  refine⟨l,m,n,rfl,f.mv,qC,λ_=>⟨rfl,ah,λy D=>da f.own λq r=>D q (f.own.lt q r).1 (f.own.lt q r).2⟩⟩
 have C:=J h;have e:Y (o=if(ih S j a).2.2=true then qe S j (d-1) (ih S j a).1 (b++[(ih S j a).2.1])else((ih S j a).1,[],false)):=by rw[Y,x.out,N<|λc=>h<|by rw[c];rfl]
 have z:=Pv S j a v;have A:=aga S j a v;go_wp21;go_call qq i S a 47 _ H Q C as c aA ⟨rfl,g⟩;have f:=u.move t<|.mv g;go_wp21;refine(asn i S j a _ (f.mv.rc p v) a5).mono ?_;generalize ih S j a=a8 at e z A|-;let⟨q,⟨r,s⟩,a7⟩:=a8;simp only at z A e|-;rintro c w ⟨rfl,g⟩;have B:=f.move t g;have aB:=B.mv.size;cases a7 with
 |false=>
  have g:Y (o=(q,[],false)):=by rw[Y,e.out];rfl
  go_wp21;go_ret2;rw[g.out];exact⟨_,_,_,rfl,B.mv.below<|by first|exact bp _ _|exact(((bp _ _).alloc ah _).setCell qD _).setCell qD _|exact((bp _ _).alloc ah _),z.1,λE=>by cases E⟩
 |true=>
  have g:Y (o=qe S j (d-1) q (b++[⟨r,s⟩])):=by rw[Y,e.out];rfl
  have aD:=A rfl;have K:Y (∀F,Below w.heap.size w F->Ti W F i q u6 b):=λF E=>B.below E
  go_wp2_with (at_builtin;refine wpList_append_lies _ rfl _ _ 196 rfl W.heap.size 293 a6 (.agg #[I 0,.int .u8 0]) 2 16 underlying196 U V X Z rfl Q u6 b.length (rq b) rfl (K _<|((bp _ _).alloc ah _).alloc qD _).own (O (w.heap.size+1) 0) 1 1 [I r,Value.int .u8 s] rfl rfl (World.news_of_block (cs:=#[I r,Value.int .u8 s]) (t:=293) (fr:=(0,0))<|arc _ _ _ qD) (by simp[Value.oneCell']) Q qH Q qB (w.heap.size+2) qD ?_;intro a4 a2 w3 M P a3 R;have L:Ti W w3 i q (aa a4 (b.length+1) a2) (b++[⟨r,s⟩]):=(K _<|((bp _ _).alloc ah _).alloc qD _).grown t M P;clear M P a3 R);go_roundw
  .grind
  have M:=pu L.mv.c1;have D:=a1;rw[M,D];omega
def py(l:List Nat):List af:=l.map λc:Nat=>Value.int .u8 c
def amd(c:List Nat)(b:Nat)(e:∀a∈c,a<256)(h:b<256):(Lib.bytesOf (c.map λa:Nat=>(a:Int))).any (λa=>a==(b:Int).toNat.toUInt8)=c.contains b:=by
 induction c with
 |nil=>rfl
 |cons d c i=>
  have k:=e d qD;have f:=i (λa l=>e a<|by simp[l]);have g:((d:Int).toNat.toUInt8==(b:Int).toNat.toUInt8)=(b==d):=by
   rw[vv];simp only[ra,yxl];constructor
   .intro j
    have:=congrArg UInt8.toNat j;simp[yxn,k,h]at this;omega
   rintro rfl;rfl
  simp only[vw,Lib.bytesOf] at*
  rw[yxe,f,List.contains_cons,g]
def Nv(b:List Nat)(c:Nat)(e:ae)(j:e.ownsRow i 5 1 V b.length (py b))(p:∀a∈b,a<256)(q:c<256):
  Calls prog 245 #[V,.int .u8 c] e λl t=>∃a:Int,l=.returned (.int .i64 a)/\(b.contains c=true/\0<=a\/b.contains c=false/\a<0)/\t=e:=by
 have hd:∃a:Int,Sem.run prog (callFunc 255 #[V,.int .u8 c]) e=.ok (.value<|I a) e/\(b.contains c=true/\0<=a\/b.contains c=false/\a<0):=by
  let⟨v,r⟩:=j;obtain⟨rfl,h⟩|⟨k,m,n,rfl,_,s,w,_,x,o⟩:=r
  .have:b=[]:=Ex.1 h;subst this;refine⟨-1,?_,.inr ⟨rfl,Q⟩⟩;rw[yxf func255 qF qF qF (e:=Extern.BytealgIndexByte.indexByte) qF,Lib.run_indexByteNil e 0 0 _];rfl
  refine⟨Lib.indexByte (Lib.bytesOf (b.map λa:Nat=>(a:Int))) (c:Int).toNat.toUInt8,?_,?_⟩
  .rw[yxf func255 qF qF qF (e:=Extern.BytealgIndexByte.indexByte) qF,Lib.run_indexByteSlice e k 0 b.length m (b.map λa:Nat=>(a:Int)) qD ?_ _]
   .rfl
   intro g u
   rw[qo,yya e k g n 5 (0,0) s];have f:(py b)[g]?=some (.int .u8<|(b.map λa:Nat=>(a:Int)).getD g 0):=by
    simp[py,yz,dy u]
   rw[<-o,Cg]at f;split at f
   .simpa using f
   cases f
  have g:=adv (Lib.bytesOf (b.map λa:Nat=>(a:Int))) (c:Int).toNat.toUInt8;rw[amd b c p q]at g;rcases df (b.contains c)with d|d
  .exact .inl ⟨d,g.2 d⟩
  refine .inr ⟨d,?_⟩;by_cases h:0<=Lib.indexByte (Lib.bytesOf (b.map λa:Nat=>(a:Int))) (c:Int).toNat.toUInt8
  .rw[g.1 h]at d;cases d
  omega
 let⟨a,hd,f⟩:=hd;have g:=J f;go_in;go_wp2;go_ret;exact⟨a,rfl,g,rfl⟩
structure Fl(b P:Nat)(w w':ae)(j:Nat)(a p:Bool)(n:Nat):Prop where
 os:w'.os=w.os
 tape:w'.tape=w.tape
 output:w'.output=w.output
 size:w'.heap.size=w.heap.size
 block:∀k,k≠b->k≠P->w'.heap[k]?=w.heap[k]?
 c1:w'.cell? (O b 1)=some (I j)
 cell:∀k,k≠1->w'.cell? (O b k)=w.cell? (O b k)
 cd:∀k,w'.frozen? (O b k)=w.frozen? (O b k)
 p4:w'.cell? (O P 4)=some (I n)
 p5:w'.cell? (O P 5)=some (.bool a)
 p6:w'.cell? (O P 6)=some (.bool p)
 pc:∀k,k<4->w'.cell? (O P k)=w.cell? (O P k)
 pf:∀k,w'.frozen? (O P k)=w.frozen? (O P k)
def Fl.drewN{f g:Bool}(e:Fl a b w u c f g d)(h:Nat):Fl a b w (u.drewN h) c f g d:=
 ⟨e.os,e.tape,e.output,e.size,e.block,e.c1,e.cell,e.cd,e.p4,e.p5,e.p6,e.pc,e.pf⟩
def Cr(h:a≠b\/c≠d):((O a c):Addr)≠(O b d):=λe=>by
 injection e with f g;obtain h|h:=h
 .exact h f
 exact h g
def Fl.go{l n:Bool}(f:Fl a b w u c l n d)(i:a≠b){v:Int}(k:Nat)(o:v=k:=by omega):Fl a b w (u.setCell (O a 1)<|I v) k l n d:=by
 subst o;have h:∀j e,(a≠j\/1≠e)->(u.setCell (O a 1)<|I k).cell? (O j e)=u.cell? (O j e):=λj e g=>jm (h:=Cr g) ..
 exact⟨f.os,f.tape,f.output,by rw[kg];exact f.size,λe m p=>by rw[er _ _ _ _ m];exact f.block e m p,qz _ _ _ f.c1,λe g=>(h a e<|.inr<|Ne.symm g).trans<|f.cell e g,λe=>by rw[jf];exact f.cd e,
  (h b 4<|.inl i).trans f.p4,(h b 5<|.inl i).trans f.p5,(h b 6<|.inl i).trans f.p6,λe g=>(h b e<|.inl i).trans<|f.pc e g,λe=>by rw[jf];exact f.pf e⟩
def Fl.at5{n m:Bool}(f:Fl a b w u c n m d)(k:a≠b)(j:Bool):Fl a b w (u.setCell (O b 5)<|.bool j) c j m d:=by
 have g:∀i e,(b≠i\/5≠e)->(u.setCell (O b 5)<|.bool j).cell? (O i e)=u.cell? (O i e):=λi e h=>jm (h:=Cr h) ..
 exact⟨f.os,f.tape,f.output,by rw[kg];exact f.size,λe o l=>by rw[er _ _ _ _ l];exact f.block e o l,(g a 1<|.inl<|Ne.symm k).trans f.c1,λe h=>(g a e<|.inl<|Ne.symm k).trans<|f.cell e h,λe=>by rw[jf];exact f.cd e,
  (g b 4<|.inr Q).trans f.p4,qz _ _ _ f.p5,(g b 6<|.inr Q).trans f.p6,λe h=>(g b e<|.inr Q).trans<|f.pc e h,λe=>by rw[jf];exact f.pf e⟩
def Fl.Ns{k o:Bool}(f:Fl a b w u c k o d)(l:a≠b)(j:Bool):Fl a b w (u.setCell (O b 6)<|.bool j) c k j d:=by
 have g:∀i e,(b≠i\/6≠e)->(u.setCell (O b 6)<|.bool j).cell? (O i e)=u.cell? (O i e):=λi e h=>jm (h:=Cr h) ..
 exact⟨f.os,f.tape,f.output,by rw[kg];exact f.size,λe n m=>by rw[er _ _ _ _ m];exact f.block e n m,(g a 1<|.inl<|Ne.symm l).trans f.c1,λe h=>(g a e<|.inl<|Ne.symm l).trans<|f.cell e h,λe=>by rw[jf];exact f.cd e,
  (g b 4<|.inr Q).trans f.p4,(g b 5<|.inr Q).trans f.p5,qz _ _ _ f.p6,λe h=>(g b e<|.inr Q).trans<|f.pc e h,λe=>by rw[jf];exact f.pf e⟩
def Fl.ry{k n:Bool}(f:Fl a b w u c k n d)(l:a≠b){v:Int}(j:Nat)(o:v=j:=by omega):Fl a b w (u.setCell (O b 4)<|I v) c k n j:=by
 subst o;have g:∀i e,(b≠i\/4≠e)->(u.setCell (O b 4)<|I j).cell? (O i e)=u.cell? (O i e):=λi e h=>jm (h:=Cr h) ..
 exact⟨f.os,f.tape,f.output,by rw[kg];exact f.size,λe p m=>by rw[er _ _ _ _ m];exact f.block e p m,(g a 1<|.inl<|Ne.symm l).trans f.c1,λe h=>(g a e<|.inl<|Ne.symm l).trans<|f.cell e h,λe=>by rw[jf];exact f.cd e,
  qz _ _ _ f.p4,(g b 5<|.inr Q).trans f.p5,(g b 6<|.inr Q).trans f.p6,λe h=>(g b e<|.inr Q).trans<|f.pc e h,λe=>by rw[jf];exact f.pf e⟩
def Fl.rc{h j:Bool}(g:Fl a b w u d h j e)(f:Rc w a s c)(i:d<=s.size:=by omega):Rc u a s d:=
 ⟨by rw[g.cell 0 Q];exact f.c0,g.c1,by rw[g.cd];exact f.f1,i,f.li⟩
def qt(a p:Bool)(n:Nat):Nat:=(if a then 1 else 0)+(if p then 1 else 0)+(if n=0 then 0 else 1)
def Ug(a c:Bool)(b:Nat):qt a c b<=3:=by
 unfold qt;cases a<;>cases c<;>by_cases d:b=0<;>simp[d]
def arm(b:br s po a=true):a<s.size/\49<=au s a/\au s a<=57:=by
 simp[br]at b;refine⟨b.1,?_⟩;have c:=b.2;simp[bn,po]at c;omega
def xxb{p q:Bool}{i j:Nat}(m:Fl i j w u (a+1) p q e)(H:xi v i=a)(l:a<b):b-xi u i<b-xi v i:=by have:=pu m.c1;rw[this,H];omega
def aor(b:ag)(D:Nat)(A:ae)(K:Rc A i b D)(g:i≠j)(T:A.cell? (O j 4)=some (I 0))(U:A.cell? (O j 5)=some (.bool false))(V:A.cell? (O j 6)=some (.bool false))(W:∀X,X<7->A.frozen? (O j X)=false):
  Calls prog 231 #[.pointer (some ⟨i,0,none⟩), .pointer (some ⟨j,0,none⟩)] A fun d a5=>d= .returned (.tuple #[])/\Fl i j A a5 (flagF b 4 D false false 0).1 (flagF b 4 D false false 0).2.1 (flagF b 4 D false false 0).2.2.1 (flagF b 4 D false false 0).2.2.2/\(flagF b 4 D false false 0).1<=b.size:=by
 have Z:=J K;have a0:=K.le;have a6:=K.li;have P:=J W;have a1:Y (Fl i j A A D false false 0):=⟨rfl,rfl,rfl,rfl,fun _ _ _=>rfl,K.c1,fun _ _=>rfl,fun _=>rfl,T,U,V,fun _ _=>rfl,fun _=>rfl⟩;clear K T U V W;generalize hF:flagF b 4 D false false 0=F;have a2:=J hF;clear hF;go_in;go_wp21;go_loopw [] (fun wr=>∃(a e:Nat) (h k:Bool),Fl i j A wr a h k e/\a<=b.size/\e<=9/\qt h k e<=3/\Y (F=flagF b (4-qt h k e) a h k e)) (fun wr=>b.size-xi wr i)
 case atStart=>exact ⟨D,0,false,false,a1.out,a0,Q,by simp [qt],a2.symm⟩
 obtain ⟨a,e,h,k,m,B,R,a7,n⟩:=hrel;have q:=J m;have c:=J (m.rc Z.out B);have H:=J (pu m.c1);have E:Y (F=if h=false/\pk b a=103 then flagF b (3-qt h k e) (a+1) true k e else if k=false/\pk b a=112 then flagF b (3-qt h k e) (a+1) h true e else if e=0/\br b po a=true then flagF b (3-qt h k e) (a+1) h k (au b a-48) else (a,h,k,max e 1)):=by
  rw [Y,n.out]
  conv=>lhs;rw [show 4-qt h k e=(3-qt h k e)+1 from Q,flagF]
 obtain ⟨a8,a9,aA,aB,aC⟩:=c.out;have aD:=m.p4;have aE:=m.p5;have aF:=m.p6;have aG:=(m.pf 4).trans (P.out 4 Q);have aH:=(m.pf 5).trans (P.out 5 Q);have aI:=(m.pf 6).trans (P.out 6 Q);clear m n;by_cases r:h=false/\pk b a=((103:Nat):Int)
 .obtain ⟨rfl,r⟩:=r;have L:=J r;obtain ⟨S,_⟩:=ho (s:=b) (i:=a) (by rw [r];decide);have u:Y (F=flagF b (4-qt true k e) (a+1) true k e):=by
   rw [Y,E.out,G ⟨rfl,by rw [r];rfl⟩,show 3-qt false k e=4-qt true k e by simp [qt];omega]
  have C:=Ug true k e;clear r E;go_wp2_with (go_at_call 100;go_call Bh i b a 103 _ c.out Q L.out as d n ⟨rfl,m,rfl⟩);go_roundw
  .exact ⟨a+1,_,_,_,((q.out.go g (v:=(a:Int)+1) (a+1) Q).drewN _).at5 g true,Q,Q,C,u⟩
  exact xxb (((q.out.go g (v:=(a:Int)+1) (a+1) Q).drewN _).at5 g true) H.out S
 by_cases p:k=false/\pk b a=((112:Nat):Int)
 .obtain ⟨rfl,p⟩:=p;have L:=J p;have x:Y (pk b a≠((103:Nat):Int)):=by rw [Y,p];decide
  obtain ⟨S,_⟩:=ho (s:=b) (i:=a) (by rw [p];decide);have u:Y (F=flagF b (4-qt h true e) (a+1) h true e):=by
   rw [Y,E.out,N (fun m=>cb m.2 (by rw [p];decide)),G ⟨rfl,by rw [p];rfl⟩,show 3-qt h false e=4-qt h true e by simp [qt];omega]
  have C:=Ug h true e;have o:=J (@id (h=false));clear p E r;cases h
  all_goals
   go_wp21;try (have:=o.out (by trivial);go_call tq i b a 103 _ (by first|exact c.out|exact c.out.drewN _) Q x.out as d n ⟨rfl,l,rfl⟩;go_wp21)
   go_call Bh i b a 112 _ (by first|exact c.out|exact c.out.drewN _) Q L.out as d n ⟨rfl,l,rfl⟩;go_wp21;go_roundw
   .first|exact ⟨a+1,_,_,_,(((q.out.drewN _).go g (v:=(a:Int)+1) (a+1) Q).drewN _).Ns g true,Q,Q,C,u⟩|exact ⟨a+1,_,_,_,((q.out.go g (v:=(a:Int)+1) (a+1) Q).drewN _).Ns g true,Q,Q,C,u⟩
   first|exact xxb ((((q.out.drewN _).go g (v:=(a:Int)+1) (a+1) Q).drewN _).Ns g true) H.out S|exact xxb (((q.out.go g (v:=(a:Int)+1) (a+1) Q).drewN _).Ns g true) H.out S
 by_cases t:e=0/\br b po a=true
 .obtain ⟨rfl,t⟩:=t;obtain ⟨S,a3,a4⟩:=arm t;have y:=J t;have s:=fh S;have u:Y (F=flagF b (3-qt h k 0) (a+1) h k (au b a-48)):=by
   rw [Y,E.out,N (fun m=>r ⟨m.1,by rw [m.2];rfl⟩),N (fun m=>p ⟨m.1,by rw [m.2];rfl⟩),G ⟨rfl,t⟩]
  generalize au b a=o at a3 a4 s u;have M:=J s;have x:Y (pk b a≠((103:Nat):Int)):=by rw [Y,s];omega
  have z:Y (pk b a≠((112:Nat):Int)):=by rw [Y,s];omega
  have u:Y (F=flagF b (4-qt h k (o-48)) (a+1) h k (o-48)):=by
   rw [Y,u.out,show 3-qt h k 0=4-qt h k (o-48) by rw [qt,qt,G rfl,N (show ¬o-48=0 from Q)];omega]
  have C:=Ug h k (o-48);have r:=J (@id (h=false));have p:=J (@id (k=false));clear t s E;cases h<;>cases k
  all_goals
   go_wp21;try (have:=r.out (by trivial);go_call tq i b a 103 _ (by first|exact c.out|exact c.out.drewN _) Q x.out as d n ⟨rfl,l,rfl⟩;go_wp21)
   try (have:=p.out (by trivial);go_call tq i b a 112 _ (by first|exact c.out|exact c.out.drewN _) Q z.out as d n ⟨rfl,l,rfl⟩;go_wp21)
   refine (oj i b po a _ (by first|exact c.out|exact c.out.drewN _)).mono ?_;rw [y.out];rintro d n ⟨rfl,l,rfl⟩;go_wp21;refine (iz i b a _ (by first|exact c.out|exact c.out.drewN _)).mono ?_;rw [M.out];rintro d n ⟨rfl,l,rfl⟩;go_wp21;go_roundw
   .exact ⟨a+1,_,_,_,((q.out.drewN _).ry g (v:=(o:Int)-48) (o-48) Q).go g (v:=(a:Int)+1) (a+1) Q,Q,Q,C,u⟩
   exact xxb (((q.out.drewN _).ry g (v:=(o:Int)-48) (o-48) Q).go g (v:=(a:Int)+1) (a+1) Q) H.out S
 have u:Y (F=(a,h,k,max e 1)):=by
  rw [Y,E.out,N (fun m=>r ⟨m.1,by rw [m.2];rfl⟩),N (fun m=>p ⟨m.1,by rw [m.2];rfl⟩),N t]
 have x:Y (h=false->pk b a≠((103:Nat):Int)):=fun d m=>r ⟨d,m⟩
 have z:Y (k=false->pk b a≠((112:Nat):Int)):=fun d m=>p ⟨d,m⟩
 have y:Y (e=0->br b po a=false):=fun d=>by
  obtain m|m:=df (br b po a)
  .exact cb ⟨d,m⟩ t
  exact m
 clear E r p t;cases h<;>cases k<;>obtain rfl|o:e=0\/((e:Int)==0)=false:=qB
 all_goals
  go_wp21;try (have x:=x.out (by trivial);go_call tq i b a 103 _ (by first|exact c.out|exact c.out.drewN _) Q x as d n ⟨rfl,l,rfl⟩;go_wp21)
  try (have z:=z.out (by trivial);go_call tq i b a 112 _ (by first|exact c.out|exact c.out.drewN _) Q z as d n ⟨rfl,l,rfl⟩;go_wp21)
  try (have y:=y.out (by trivial);refine (oj i b po a _ (by first|exact c.out|exact c.out.drewN _)).mono ?_;rw [y];rintro d n ⟨rfl,l,rfl⟩;go_wp21)
  rw [u.out];go_returns;(first|refine ⟨rfl,Fl.ry (d:=0) ?_ g _ (by rfl),B⟩|refine ⟨rfl,Fl.ry (d:=e) ?_ g _ (by show max (e:Int) 1=((max e 1:Nat):Int);omega),B⟩);repeat first|refine Fl.drewN ?_ _|exact q.out
