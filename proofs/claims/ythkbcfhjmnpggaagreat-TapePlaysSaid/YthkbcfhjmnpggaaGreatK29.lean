/- Texts that belong together, joined: Rin, Numb, RinA, RinB, RinC. -/
import Derived.Test.YthkbcfhjmnpggaaGreatK05
import Derived.Test.YthkbcfhjmnpggaaGreatK01
import Derived.Test.YthkbcfhjmnpggaaGreatK03
import Derived.Test.YthkbcfhjmnpggaaGreatK27
import Derived.Test.YthkbcfhjmnpggaaGreatK04
import Derived.Test.YthkbcfhjmnpggaaGreatK13
import Derived.Test.YthkbcfhjmnpggaaGreatK12
import Derived.Test.YthkbcfhjmnpggaaGreatK11
namespace Go.Proofs.YthkbcfhjmnpggaaGreat
open Go.RowKit
set_option linter.unusedSimpArgs false
theorem may_kinds {r:Rc} (h:May r):r.kind=1∨r.kind=2∨r.kind=3∨r.kind=4∨r.kind=5∨r.kind=6:=by
 cases h with
 | upd=>exact .inl rfl
 | und=>exact .inr (.inl rfl)
 | com hk =>
    rcases hk with rfl | rfl
    · exact .inr (.inr (.inl rfl))
    · exact .inr (.inr (.inr (.inl rfl)))
 | beg=>exact .inr (.inr (.inr (.inr (.inl rfl))))
 | tab=>exact .inr (.inr (.inr (.inr (.inr rfl))))
structure Rin where
 s:List UInt8
 bad:Bool
namespace Rin
def fails (x:Rin) (n:Nat):Bool:=x.bad || decide (x.s.length < n)
def take (x:Rin) (n:Nat):List UInt8:=if x.fails n then List.replicate n 0 else x.s.take n
def rest (x:Rin) (n:Nat):Rin:=if x.fails n then ⟨x.s,true⟩ else ⟨x.s.drop n,false⟩
def four (x:Rin):Int:=(num4 (x.take 4):Nat)
def small (x:Rin):Int:=(((x.take 1).getD 0 0).toNat:Int)
def rowsT:Nat→Rin→List Row3 × Rin
 | 0,x=>([],x)
 | n+1,x=>if x.bad then ([],x) else
   let y:=rowsT n (((x.rest 4).rest 4).rest 4)
   ((x.four,(x.rest 4).four,((x.rest 4).rest 4).four)::y.1,y.2)
def rowsP:Nat→Rin→List Row2 × Rin
 | 0,x=>([],x)
 | n+1,x=>if x.bad then ([],x) else
   let y:=rowsP n ((x.rest 1).rest 4)
   ((x.small,(x.rest 1).four)::y.1,y.2)
def texts (x:Rin) (k:Int) (n:Nat) (r:Rc):Rc × Rin :=
 if k=1 then ({ r with before:=⟨(x.take n).toArray⟩,after:=⟨((x.rest n).take n).toArray⟩ },(x.rest n).rest n)
 else ({ r with after:=⟨(x.take n).toArray⟩ },x.rest n)
def change (x:Rin) (k:Int) (r:Rc):Rc × Rin :=
 texts (((x.rest 1).rest 1).rest 1) k ((x.rest 1).rest 1).small.toNat { r with page:=x.small,off:=(x.rest 1).small }
def tables (x:Rin) (r:Rc):Rc × Rin :=
 let n:=(x.rest 4).small.toNat
 let t:=rowsT n ((x.rest 4).rest 1)
 let m:=t.2.small.toNat
 let p:=rowsP m (t.2.rest 1)
 ({ r with beg:=x.four,txns:=t.1,pages:=p.1 },p.2)
def rec0 (x0:Rin):Rc × Rin :=
 let k:=x0.small
 let x:=x0.rest 1
 let r:={ Rc.nil with kind:=k }
 if k=1∨k=2∨k=3∨k=4 then
  let r:={ r with txn:=x.four,prev:=(x.rest 4).four }
  let y:=(x.rest 4).rest 4
  if k=2 then change (y.rest 4) k { r with next:=y.four }
  else if k=1 then change y k r
  else (r,y)
 else if k=6 then tables x r
 else (r,x)
theorem take_app (c l:List UInt8):(Rin.mk (c++l) false).take c.length=c∧(Rin.mk (c++l) false).rest c.length=⟨l,false⟩:=by
 have h:(Rin.mk (c++l) false).fails c.length=false:=by simp [fails]
 unfold take rest
 rw [h]
 simp
theorem four_app {n:Int} (h:Num n) (l:List UInt8):(Rin.mk (beI n++l) false).four=n∧(Rin.mk (beI n++l) false).rest 4=⟨l,false⟩:=by
 obtain ⟨h1,h2⟩:=take_app (beI n) l
 rw [beI_len] at h1 h2
 refine ⟨?_,h2⟩
 unfold four
 rw [h1]
 unfold Num at h
 unfold num4 beI be4
 simp [List.getD_eq_getElem?_getD]
 omega
theorem small_app {n:Int} (h:0≤n∧n≤255) (l:List UInt8):(Rin.mk (lowI n::l) false).small=n∧(Rin.mk (lowI n::l) false).rest 1=⟨l,false⟩:=by
 obtain ⟨h1,h2⟩:=take_app [lowI n] l
 refine ⟨?_,h2⟩
 unfold small
 rw [show (Rin.mk (lowI n::l) false).take 1 = [lowI n] from h1]
 simpa using lowI_toNat h
theorem rowsT_app:∀ (xs:List Row3) (_:∀ x ∈ xs,Row3Ok x) (l:List UInt8),rowsT xs.length ⟨xs.flatMap enc3++l,false⟩=(xs,⟨l,false⟩)
 | [],_,l=>rfl
 | x::xs,h,l=>by
   obtain ⟨_,h1,h2,h3⟩:=h x (by simp)
   have e:(x::xs).flatMap enc3++l=beI x.1++(beI x.2.1++(beI x.2.2++(xs.flatMap enc3++l))):=by simp [enc3]
   rw [e,List.length_cons]
   unfold rowsT
   rw [if_neg (by simp),(four_app h1 _).1,(four_app h1 _).2,(four_app h2 _).1,(four_app h2 _).2,(four_app h3 _).1,(four_app h3 _).2,rowsT_app xs (fun y hy=>h y (by simp [hy])) l]
theorem rowsP_app:∀ (xs:List Row2) (_:∀ x ∈ xs,Row2Ok x) (l:List UInt8),rowsP xs.length ⟨xs.flatMap enc2++l,false⟩=(xs,⟨l,false⟩)
 | [],_,l=>rfl
 | x::xs,h,l=>by
   obtain ⟨h1,h2⟩:=h x (by simp)
   have e:(x::xs).flatMap enc2++l=lowI x.1::(beI x.2++(xs.flatMap enc2++l)):=by simp [enc2]
   rw [e,List.length_cons]
   unfold rowsP
   rw [if_neg (by simp),(small_app (by omega) _).1,(small_app (by omega) _).2,(four_app h2 _).1,(four_app h2 _).2,rowsP_app xs (fun y hy=>h y (by simp [hy])) l]
theorem rec0_lay {r:Rc} (h:May r) (l:List UInt8):rec0 ⟨lay r++l,false⟩=(r,⟨l,false⟩):=by
 cases h with
 | @upd t p pg o b a ht hn hp hs hb =>
   obtain ⟨h1,h2,h3,h4⟩:=hs
   have e:lay (.upd t p pg o b a)++l=lowI 1::(beI t++(beI p++(lowI pg::lowI o::lowI a.size::(b.data.toList++(a.data.toList++l))))):=by simp [lay,Rc.upd]
   rw [e]
   unfold rec0
   simp only [(small_app (n:=1) (by omega) _).1,(small_app (n:=1) (by omega) _).2,(four_app hn _).1,(four_app hn _).2,(four_app hp _).1,(four_app hp _).2]
   simp only [true_or,or_true,or_false,false_or,if_true,if_false,reduceIte]
   unfold change texts
   simp only [(small_app (n:=pg) (by omega) _).1,(small_app (n:=pg) (by omega) _).2,(small_app (n:=o) (by omega) _).1,(small_app (n:=o) (by omega) _).2,(small_app (n:=a.size) (by omega) _).1,(small_app (n:=a.size) (by omega) _).2,if_true]
   have q1:=take_app b.data.toList (a.data.toList++l)
   have q2:=take_app a.data.toList l
   rw [show b.data.toList.length=a.size from hb] at q1
   rw [show a.data.toList.length=a.size from rfl] at q2
   rw [Int.toNat_natCast,q1.1,q1.2,q2.1,q2.2]
   rfl
 | @und t p n pg o a ht hn hp hx hs =>
   obtain ⟨h1,h2,h3,h4⟩:=hs
   have e:lay (.und t p n pg o a)++l=lowI 2::(beI t++(beI p++(beI n++(lowI pg::lowI o::lowI a.size::(a.data.toList++l))))):=by simp [lay,Rc.und]
   rw [e]
   unfold rec0
   simp only [(small_app (n:=2) (by omega) _).1,(small_app (n:=2) (by omega) _).2,(four_app hn _).1,(four_app hn _).2,(four_app hp _).1,(four_app hp _).2,(four_app hx _).1,(four_app hx _).2]
   simp only [true_or,or_true,or_false,false_or,if_true,if_false,reduceIte]
   unfold change texts
   simp only [(small_app (n:=pg) (by omega) _).1,(small_app (n:=pg) (by omega) _).2,(small_app (n:=o) (by omega) _).1,(small_app (n:=o) (by omega) _).2,(small_app (n:=a.size) (by omega) _).1,(small_app (n:=a.size) (by omega) _).2,if_false,reduceIte]
   have q2:=take_app a.data.toList l
   rw [show a.data.toList.length=a.size from rfl] at q2
   rw [Int.toNat_natCast,q2.1,q2.2]
   rfl
 | @com k t p hk ht hn hp =>
   have e:lay (.com k t p)++l=lowI k::(beI t++(beI p++l)):=by
    rcases hk with rfl | rfl <;> simp [lay,Rc.com]
   rw [e]
   unfold rec0
   simp only [(small_app (n:=k) (by omega) _).1,(small_app (n:=k) (by omega) _).2,(four_app hn _).1,(four_app hn _).2,(four_app hp _).1,(four_app hp _).2]
   rw [if_pos (by omega),if_neg (by omega),if_neg (by omega)]
   rfl
 | beg =>
   have e:lay .begin5++l=lowI 5::l:=by simp [lay,Rc.begin5,Rc.com]
   rw [e]
   unfold rec0
   simp only [(small_app (n:=5) (by omega) _).1,(small_app (n:=5) (by omega) _).2]
   rfl
 | @tab b ts ps hb ht hp h3 h2 =>
   have e:lay (.tab b ts ps)++l=lowI 6::(beI b++(lowI ts.length::(ts.flatMap enc3++(lowI ps.length::(ps.flatMap enc2++l))))):=by simp [lay,Rc.tab,encTab]
   rw [e]
   unfold rec0 tables
   simp only [(small_app (n:=6) (by omega) _).1,(small_app (n:=6) (by omega) _).2,(four_app hb _).1,(four_app hb _).2,(small_app (n:=ts.length) (by omega) _).1,(small_app (n:=ts.length) (by omega) _).2,Int.toNat_natCast,
    rowsT_app ts h3,(small_app (n:=ps.length) (by omega) _).1,(small_app (n:=ps.length) (by omega) _).2,rowsP_app ps h2]
   simp only [true_or,or_true,or_false,false_or,if_true,if_false,reduceIte]
   rfl
/-! What was read without fault stood there. -/
theorem rest_bad {x:Rin} {n:Nat} (h:(x.rest n).bad=false):x.bad=false∧n≤x.s.length∧x.take n=x.s.take n∧(x.rest n).s=x.s.drop n:=by
 unfold rest at h ⊢
 cases hf:x.fails n with
 | true=>rw [hf] at h; cases h
 | false =>
   unfold take
   rw [hf]
   unfold fails at hf
   simp only [Bool.or_eq_false_iff,decide_eq_false_iff_not,Nat.not_lt] at hf
   exact ⟨hf.1,hf.2,rfl,rfl⟩
theorem rest_split {x:Rin} {n:Nat} (h:(x.rest n).bad=false):x.s=x.take n++(x.rest n).s∧(x.take n).length=n∧x.bad=false:=by
 obtain ⟨h1,h2,h3,h4⟩:=rest_bad h
 rw [h3,h4]
 exact ⟨(List.take_append_drop n x.s).symm,by simp; omega,h1⟩
theorem four_split {x:Rin} (h:(x.rest 4).bad=false):x.s=beI x.four++(x.rest 4).s∧x.bad=false:=by
 obtain ⟨h1,h2,h3⟩:=rest_split h
 refine ⟨?_,h3⟩
 unfold four
 generalize x.take 4=t at *
 rw [h1]
 congr 1
 match t,h2 with
 | [a,b,c,d],_ =>
  have ha:=a.toNat_lt; have hb:=b.toNat_lt; have hc:=c.toNat_lt; have hd:=d.toNat_lt
  unfold beI be4 num4
  simp only [List.getD_cons_zero,List.getD_cons_succ]
  have e:(((a.toNat*16777216+b.toNat*65536+c.toNat*256+d.toNat:Nat):Int) % 4294967296).toNat=a.toNat*16777216+b.toNat*65536+c.toNat*256+d.toNat:=by omega
  rw [e]
  have f:∀ (u:UInt8) (n:Nat),n % 256=u.toNat→u=UInt8.ofNat n:=fun u n hn=>by
   apply UInt8.toNat_inj.1
   simp [hn]
  rw [← f a _ (by omega),← f b _ (by omega),← f c _ (by omega),← f d _ (by omega)]
theorem small_split {x:Rin} (h:(x.rest 1).bad=false):x.s=lowI x.small::(x.rest 1).s∧x.bad=false∧0≤x.small∧x.small≤255:=by
 obtain ⟨h1,h2,h3⟩:=rest_split h
 have hb:0≤x.small∧x.small≤255:=by
  unfold small
  have:=((x.take 1).getD 0 0).toNat_lt
  omega
 refine ⟨?_,h3,hb⟩
 unfold small at hb ⊢
 generalize x.take 1=t at *
 match t,h2 with
 | [a],_ =>
  rw [h1]
  simp only [List.getD_cons_zero,List.cons_append,List.nil_append] at hb ⊢
  congr 1
  apply UInt8.toNat_inj.1
  have:=lowI_toNat hb
  omega
theorem rowsT_split:∀ (n:Nat) (x:Rin),(rowsT n x).2.bad=false→x.s=(rowsT n x).1.flatMap enc3++(rowsT n x).2.s∧(rowsT n x).1.length=n∧x.bad=false
 | 0,x,h=>⟨rfl,rfl,h⟩
 | n+1,x,h=>by
   unfold rowsT at h ⊢
   split at h
   · rename_i hb; rw [show x.bad=false from h] at hb; cases hb
   ·rename_i hb
    rw [if_neg hb]
    obtain ⟨e1,e2,e3⟩:=rowsT_split n _ h
    obtain ⟨c1,c2⟩:=four_split e3
    obtain ⟨b1,b2⟩:=four_split c2
    obtain ⟨a1,a2⟩:=four_split b2
    refine ⟨?_,by simp only [List.length_cons,e2],a2⟩
    rw [a1,b1,c1,e1]
    simp [enc3]
theorem rowsP_split:∀ (n:Nat) (x:Rin),(rowsP n x).2.bad=false→x.s=(rowsP n x).1.flatMap enc2++(rowsP n x).2.s∧(rowsP n x).1.length=n∧x.bad=false
 | 0,x,h=>⟨rfl,rfl,h⟩
 | n+1,x,h=>by
   unfold rowsP at h ⊢
   split at h
   · rename_i hb; rw [show x.bad=false from h] at hb; cases hb
   ·rename_i hb
    rw [if_neg hb]
    obtain ⟨e1,e2,e3⟩:=rowsP_split n _ h
    obtain ⟨b1,b2⟩:=four_split e3
    obtain ⟨a1,a2,_⟩:=small_split b2
    refine ⟨?_,by simp only [List.length_cons,e2],a2⟩
    rw [a1,b1,e1]
    simp [enc2]
theorem texts_split {x:Rin} {k:Int} {n:Nat} {r:Rc} (h:(texts x k n r).2.bad=false) (hk:k=1∨k=2) (hb:r.before=⟨#[]⟩) :
 x.bad=false∧(texts x k n r).1.after.size=n∧x.s=(texts x k n r).1.before.data.toList++(texts x k n r).1.after.data.toList++(texts x k n r).2.s:=by
 unfold texts at h ⊢
 rcases hk with rfl | rfl
 ·simp only [if_true,reduceIte] at h ⊢
  obtain ⟨a1,a2,a3⟩:=rest_split h
  obtain ⟨b1,b2,b3⟩:=rest_split a3
  refine ⟨b3,a2,?_⟩
  rw [b1,a1]
  simp
 ·simp only [Int.reduceEq,if_false,reduceIte] at h ⊢
  obtain ⟨a1,a2,a3⟩:=rest_split h
  refine ⟨a3,a2,?_⟩
  rw [a1,hb]
  rfl
theorem texts_same (x:Rin) (k:Int) (n:Nat) (r:Rc):(texts x k n r).1.kind=r.kind∧(texts x k n r).1.txn=r.txn∧(texts x k n r).1.prev=r.prev∧(texts x k n r).1.next=r.next∧(texts x k n r).1.page=r.page∧(texts x k n r).1.off=r.off:=by
 unfold texts; split <;> exact ⟨rfl,rfl,rfl,rfl,rfl,rfl⟩
theorem change_split {x:Rin} {k:Int} {r:Rc} (h:(change x k r).2.bad=false) (hk:k=1∨k=2) (hb:r.before=⟨#[]⟩) :
 x.bad=false∧(change x k r).1.kind=r.kind∧(change x k r).1.txn=r.txn∧(change x k r).1.prev=r.prev∧(change x k r).1.next=r.next ∧
 x.s = [lowI (change x k r).1.page,lowI (change x k r).1.off,lowI (change x k r).1.after.size]++(change x k r).1.before.data.toList++(change x k r).1.after.data.toList++(change x k r).2.s:=by
 unfold change at h ⊢
 obtain ⟨h1,h2,h3⟩:=texts_split h hk hb
 obtain ⟨e1,e2,e3,e4,e5,e6⟩:=texts_same (((x.rest 1).rest 1).rest 1) k ((x.rest 1).rest 1).small.toNat { r with page:=x.small,off:=(x.rest 1).small }
 generalize texts (((x.rest 1).rest 1).rest 1) k ((x.rest 1).rest 1).small.toNat { r with page:=x.small,off:=(x.rest 1).small } = y at *
 obtain ⟨c1,c2,c3,c4⟩:=small_split h1
 obtain ⟨b1,b2,b3,b4⟩:=small_split c2
 obtain ⟨a1,a2,a3,a4⟩:=small_split b2
 refine ⟨a2,e1,e2,e3,e4,?_⟩
 rw [a1,b1,c1,h3,e5,e6,h2]
 rw [Int.toNat_of_nonneg c3]
 simp
theorem rec0_split {x0:Rin} (h:(rec0 x0).2.bad=false) (hm:May (rec0 x0).1):x0.s=lay (rec0 x0).1++(rec0 x0).2.s:=by
 unfold rec0 at h hm ⊢
 generalize hk:x0.small=k at *
 by_cases h2:k=2
 ·subst h2
  simp only [true_or,or_true,if_true,reduceIte,Int.reduceEq,if_false] at h hm ⊢
  obtain ⟨d1,d2,d3,d4,d5,d6⟩:=change_split h (.inr rfl) rfl
  generalize change _ _ _=y at *
  obtain ⟨c1,c2⟩:=four_split d1
  obtain ⟨b1,b2⟩:=four_split c2
  obtain ⟨a1,a2⟩:=four_split b2
  obtain ⟨z1,z2,_⟩:=small_split a2
  rw [hk] at z1
  rw [z1,a1,b1,c1,d6]
  simp only at d2 d3 d4 d5
  unfold lay
  rw [d2,d3,d4,d5]
  simp
 ·by_cases h1:k=1
  ·subst h1
   simp only [true_or,or_true,if_true,reduceIte,Int.reduceEq,if_false] at h hm ⊢
   obtain ⟨d1,d2,d3,d4,d5,d6⟩:=change_split h (.inl rfl) rfl
   generalize change _ _ _=y at *
   obtain ⟨b1,b2⟩:=four_split d1
   obtain ⟨a1,a2⟩:=four_split b2
   obtain ⟨z1,z2,_⟩:=small_split a2
   rw [hk] at z1
   rw [z1,a1,b1,d6]
   simp only at d2 d3 d4 d5
   unfold lay
   rw [d2,d3,d4]
   simp
  ·by_cases h3:k=3∨k=4
   ·rw [if_pos (by omega),if_neg h2,if_neg h1] at h hm ⊢
    simp only at h hm ⊢
    obtain ⟨b1,b2⟩:=four_split h
    obtain ⟨a1,a2⟩:=four_split b2
    obtain ⟨z1,z2,_⟩:=small_split a2
    rw [hk] at z1
    rw [z1,a1,b1]
    unfold lay
    simp only
    rw [if_pos (by omega),if_neg h2,if_neg (by omega),if_neg (by omega)]
    simp
   ·rw [if_neg (by omega)] at h hm ⊢
    by_cases h6:k=6
    ·rw [if_pos h6] at h hm ⊢
     unfold tables at h hm ⊢
     simp only at h hm ⊢
     obtain ⟨p1,p2,p3⟩:=rowsP_split _ _ h
     obtain ⟨q1,q2,q3,q4⟩:=small_split p3
     obtain ⟨t1,t2,t3⟩:=rowsT_split _ _ q2
     obtain ⟨s1,s2,s3,s4⟩:=small_split t3
     obtain ⟨a1,a2⟩:=four_split s2
     obtain ⟨z1,z2,_⟩:=small_split a2
     rw [hk] at z1
     rw [z1,a1,s1,t1,q1,p1]
     unfold lay encTab
     simp only [t2,p2]
     rw [if_neg (by omega),if_neg h2,if_neg (by omega),if_pos h6,Int.toNat_of_nonneg s3,Int.toNat_of_nonneg q3]
     simp
    ·rw [if_neg h6] at h hm ⊢
     simp only at h hm ⊢
     obtain ⟨z1,z2,_⟩:=small_split h
     rw [hk] at z1
     have hk5:=may_kinds hm
     simp only at hk5
     unfold lay
     simp only
     rw [if_neg (by omega),if_neg h2,if_neg (by omega),if_neg h6,z1]
     simp
end Rin
end Go.Proofs.YthkbcfhjmnpggaaGreat

namespace Go.Proofs.YthkbcfhjmnpggaaGreat
open Go.RowKit
set_option maxRecDepth 100000 in
set_option maxHeartbeats 1000000 in
theorem number_any (s:ByteArray) (w:World) (h4:4≤s.size) :
 Calls Tryz.prog 86 #[.string s] w fun e w'=>e=.returned (.int .u32 (num4 s.data.toList:Nat))∧Below w.heap.size w w':=by
 have b0:(s[0].toNat:Int) < 256:=by have:=s[0].toNat_lt; omega
 have b1:(s[1].toNat:Int) < 256:=by have:=s[1].toNat_lt; omega
 have b2:(s[2].toNat:Int) < 256:=by have:=s[2].toNat_lt; omega
 have b3:(s[3].toNat:Int) < 256:=by have:=s[3].toNat_lt; omega
 have i0:0 < s.size:=by omega
 have i1:(1:Int) < s.size:=by omega
 have i2:(2:Int) < s.size:=by omega
 have i3:(3:Int) < s.size:=by omega
 go_enter Tryz.func86,Tryz.ntmps86
 go_wp2
 go_region
 all_goals
  go_wp2
  go_ret
  refine ⟨?_,(Below.refl _ _).drew⟩
  rw [num4,getD_at s 0 (by omega),getD_at s 1 (by omega),getD_at s 2 (by omega),getD_at s 3 (by omega)]
  congr 1
end Go.Proofs.YthkbcfhjmnpggaaGreat

namespace Go.Proofs.YthkbcfhjmnpggaaGreat
open Go.RowKit
def inV (x:Rin):Array Value:=#[.string ⟨x.s.toArray⟩,.bool x.bad]
theorem bytes_take (l:List UInt8) (n:Nat):((⟨l.toArray⟩:ByteArray).extract 0 n)=⟨(l.take n).toArray⟩:=by
 apply str_ext
 rw [ByteArray.data_extract,Array.toList_extract,List.extract_eq_take_drop]
 simp
theorem bytes_drop (l:List UInt8) (n m:Nat) (h:m=l.length):((⟨l.toArray⟩:ByteArray).extract n m)=⟨(l.drop n).toArray⟩:=by
 apply str_ext
 rw [ByteArray.data_extract,Array.toList_extract,List.extract_eq_take_drop,h,← List.length_drop]
 exact List.take_length
theorem zeros_run (n:Nat) (hn:n≤1000) (W:World):(Instr.makeSlice 47 (.int .i64 n) (.int .i64 n)).run Tryz.prog W=.ok (.slice (some ⟨W.heap.size,0,none⟩) n n) (W.alloc (.cells (bytesV (List.replicate n 0)) 5)):=by
 obtain ⟨i,hi,hz,hs1,hs2⟩:=info_parts (show (Tryz.prog.info? 5).map (fun i=>(i.zero,i.size,i.bytes))=some (some (.int .u8 0),1,1) from by kernel_rfl)
 have h:=run_make (P:=Tryz.prog) W 47 5 i (.int .u8 0) Tryz.underlying47 hi hz .i64 .i64 n n (by omega) (by omega) (by rw [hs2]; omega) (by omega)
 have e:madeCells (Value.int .u8 0).cells ((n:Int).toNat*i.size)=bytesV (List.replicate n 0):=by
  rw [hs1]
  apply Array.ext'
  rw [show (Value.int .u8 0).cells=#[Value.int .u8 0] from rfl,toList_madeCells_one]
  simp [bytesV]
 rw [e] at h
 simpa using h
def InTook (w:World) (g:Nat) (v:Value) (y:Rin) (e:Ending) (w':World):Prop:=e=.returned v∧Blk w' g 176 (inV y)∧Only (· = g) w w'
set_option maxRecDepth 100000 in
set_option maxHeartbeats 2000000 in
theorem inTake_yes {w:World} {g:Nat} {x:Rin} (hb:Blk w g 176 (inV x)) (hs:x.s.length≤maxLen) (n:Nat) (hf:x.fails n=false) :
 Calls Tryz.prog 113 #[.pointer (some ⟨g,0,none⟩),.int .i64 n] w (InTook w g (.string ⟨(x.take n).toArray⟩) (x.rest n)):=by
 unfold Rin.take Rin.rest
 rw [hf]
 unfold Rin.fails at hf
 simp only [Bool.or_eq_false_iff,decide_eq_false_iff_not,Nat.not_lt] at hf
 obtain ⟨s,bad⟩:=x
 obtain ⟨rfl,hn⟩:=hf
 simp only at hs hn
 unfold maxLen at hs
 have hsz:(⟨s.toArray⟩:ByteArray).size=s.length:=by simp [ByteArray.size]
 have e1:=bytes_take s n
 have e2:=bytes_drop s n s.length rfl
 have c0:=hb.cell 0
 have c1:=hb.cell 1
 have z0:=hb.frozen 0
 simp [inV] at c0 c1
 have hn0:(n:Int)≤(s.length:Int):=by omega
 have hfin:Blk (w.setCell ⟨g,0,none⟩ (.string ⟨(s.drop n).toArray⟩)) g 176 (inV ⟨s.drop n,false⟩):=hb.set 0 _
 have hon:Only (· = g) w (w.setCell ⟨g,0,none⟩ (.string ⟨(s.drop n).toArray⟩)):=(Only.refl (· = g) w).set (p:=⟨g,0,none⟩) (.inl rfl) _
 have HF:=Lib.hid hfin
 have HO:=Lib.hid hon
 have E1:=Lib.hid e1
 have E2:=Lib.hid e2
 rw [if_neg (by decide),if_neg (by decide)]
 clear hfin hon hb e1 e2
 go_enter Tryz.func113,Tryz.ntmps113
 go_wp2
 go_ret
 rw [E1.out,E2.out]
 exact ⟨rfl,HF.out,HO.out⟩
set_option maxRecDepth 100000 in
set_option maxHeartbeats 2000000 in
theorem inTake_no {w:World} {g:Nat} {x:Rin} (hb:Blk w g 176 (inV x)) (hs:x.s.length≤maxLen) (n:Nat) (hf:x.fails n=true) (hn:n≤1000) :
 Calls Tryz.prog 113 #[.pointer (some ⟨g,0,none⟩),.int .i64 n] w (InTook w g (.string ⟨(x.take n).toArray⟩) (x.rest n)):=by
 unfold Rin.take Rin.rest
 rw [hf,if_pos rfl,if_pos rfl]
 unfold Rin.fails at hf
 simp only [Bool.or_eq_true,decide_eq_true_eq] at hf
 obtain ⟨s,bad⟩:=x
 simp only at hs hf
 unfold maxLen at hs
 have hsz:(⟨s.toArray⟩:ByteArray).size=s.length:=by simp [ByteArray.size]
 have c0:=hb.cell 0
 have c1:=hb.cell 1
 have z1:=hb.frozen 1
 simp [inV] at c0 c1
 have hfin:Blk (w.setCell ⟨g,1,none⟩ (.bool true)) g 176 (inV ⟨s,true⟩):=hb.set 1 _
 have hon:Only (· = g) w (w.setCell ⟨g,1,none⟩ (.bool true)):=(Only.refl (· = g) w).set (p:=⟨g,1,none⟩) (.inl rfl) _
 have hmk:=zeros_run n hn
 have hcv:=conv_blk (Blk.new (w.setCell ⟨g,1,none⟩ (.bool true)) 5 (bytesV (List.replicate n 0))) 0 n n (by simp) 47 5 9 Tryz.underlying47 Tryz.underlying5 Tryz.underlying9
 rw [List.drop_zero,List.take_of_length_le (by simp),show (w.setCell ⟨g,1,none⟩ (.bool true)).heap.size=w.heap.size from by simp [World.setCell]] at hcv
 have HF:=Lib.hid (hfin.alloc (.cells (bytesV (List.replicate n 0)) 5))
 have HO:=Lib.hid (hon.alloc (.cells (bytesV (List.replicate n 0)) 5))
 clear hfin hon hb
 generalize List.replicate n (0:UInt8)=l at *
 cases bad with
 | true =>
   clear hf
   go_enter Tryz.func113,Tryz.ntmps113
   go_wp2
   go_ret
   exact ⟨rfl,HF.out,HO.out⟩
 | false =>
   have hf':s.length < n:=by simpa using hf
   clear hf
   go_enter Tryz.func113,Tryz.ntmps113
   go_wp2
   go_ret
   exact ⟨rfl,HF.out,HO.out⟩
theorem inTake_any {w:World} {g:Nat} {x:Rin} (hb:Blk w g 176 (inV x)) (hs:x.s.length≤maxLen) (n:Nat) (hn:n≤1000) :
 Calls Tryz.prog 113 #[.pointer (some ⟨g,0,none⟩),.int .i64 n] w (InTook w g (.string ⟨(x.take n).toArray⟩) (x.rest n)):=by
 cases hf:x.fails n with
 | true=>exact inTake_no hb hs n hf hn
 | false=>exact inTake_yes hb hs n hf
theorem Rin.take_len (x:Rin) (n:Nat):(x.take n).length=n:=by
 unfold Rin.take Rin.fails
 split
 · simp
 ·rename_i h
  simp at h
  simp; omega
theorem Rin.rest_le (x:Rin) (n:Nat):(x.rest n).s.length≤x.s.length:=by
 unfold Rin.rest; split <;> simp
set_option maxRecDepth 100000 in
set_option maxHeartbeats 2000000 in
theorem inFour_any {w:World} {g:Nat} {x:Rin} (hb:Blk w g 176 (inV x)) (hs:x.s.length≤maxLen) :
 Calls Tryz.prog 112 #[.pointer (some ⟨g,0,none⟩)] w (InTook w g (.int .i64 x.four) (x.rest 4)):=by
 have H1:=Lib.hid (inTake_any hb hs 4 (by omega))
 have hl:=x.take_len 4
 have hlt:num4 (x.take 4) < 4294967296:=by
  unfold num4
  have:=((x.take 4).getD 0 0).toNat_lt; have:=((x.take 4).getD 1 0).toNat_lt; have:=((x.take 4).getD 2 0).toNat_lt; have:=((x.take 4).getD 3 0).toNat_lt
  omega
 have H2:=Lib.hid (fun W=>number_any ⟨(x.take 4).toArray⟩ W (by show 4≤(x.take 4).toArray.size; simp; omega))
 rw [show (⟨(x.take 4).toArray⟩:ByteArray).data.toList=x.take 4 from rfl] at H2
 unfold Rin.four
 generalize x.take 4=t at *
 generalize num4 t=m at *
 generalize x.rest 4=y at *
 clear hb hs hl
 go_enter Tryz.func112,Tryz.ntmps112
 go_wp2_with fail
 refine H1.out.mono ?_
 rintro e w1 ⟨rfl,hb1,ho1⟩
 go_wp2_with fail
 refine (H2.out _).mono ?_
 rintro e w2 ⟨rfl,hb2⟩
 have HB:=Lib.hid (hb1.keep hb2 hb1.lt)
 have HO:=Lib.hid (ho1.more hb2)
 clear hb1 ho1 hb2
 go_wp2
 go_ret
 exact ⟨rfl,HB.out,HO.out⟩
set_option maxRecDepth 100000 in
set_option maxHeartbeats 2000000 in
theorem inSmall_any {w:World} {g:Nat} {x:Rin} (hb:Blk w g 176 (inV x)) (hs:x.s.length≤maxLen) :
 Calls Tryz.prog 111 #[.pointer (some ⟨g,0,none⟩)] w (InTook w g (.int .i64 x.small) (x.rest 1)):=by
 have H1:=Lib.hid (inTake_any hb hs 1 (by omega))
 have hl:=x.take_len 1
 have hsz:(0:Nat) < (⟨(x.take 1).toArray⟩:ByteArray).size:=by show 0 < (x.take 1).toArray.size; simp; omega
 have hv:((⟨(x.take 1).toArray⟩:ByteArray)[0].toNat:Int)=x.small:=by
  unfold Rin.small
  rw [← getD_at _ 0 hsz]
 have HV:=Lib.hid hv
 generalize x.small=m at *
 clear hb hs hl hv
 generalize (⟨(x.take 1).toArray⟩:ByteArray)=t at *
 have h0:(0:Int)≤(t[0].toNat:Int):=by omega
 have h255:(t[0].toNat:Int)≤255:=by have:=t[0].toNat_lt; omega
 generalize x.rest 1=y at *
 go_enter Tryz.func111,Tryz.ntmps111
 go_wp2_with fail
 refine H1.out.mono ?_
 rintro e w1 ⟨rfl,hb1,ho1⟩
 have HB:=Lib.hid hb1
 have HO:=Lib.hid ho1
 clear hb1 ho1
 go_wp2
 go_ret
 rw [HV.out]
 exact ⟨rfl,HB.out,HO.out⟩
end Go.Proofs.YthkbcfhjmnpggaaGreat

namespace Go.Proofs.YthkbcfhjmnpggaaGreat
open Go.RowKit
structure RS (w0 w:World) (gx gr gR:Nat) (x:Rin) (r:Rc) (vt vp:Value):Prop where
 inn:Blk w gx 176 (inV x)
 row:Blk w gr 46 (recCells r vt vp)
 res:Blk w gR 46 (recCells .nil (.slice none 0 0) (.slice none 0 0))
 ne:gr≠gR
 bx:w0.heap.size≤gx
 br:w0.heap.size≤gr
 below:Below w0.heap.size w0 w
 t:w.ownsRow w0.heap.size 136 3 vt r.txns.length (rows3 r.txns)
 p:w.ownsRow w0.heap.size 138 2 vp r.pages.length (rows2 r.pages)
 le:x.s.length≤maxLen
namespace RS
variable {w0 w w':World} {gx gr gR:Nat} {x y:Rin} {r r':Rc} {vt vp vt' vp':Value}
theorem xr (h:RS w0 w gx gr gR x r vt vp):gr≠gx:=fun e=>by
 have h1:=h.inn
 have h2:=h.row
 unfold Blk at h1 h2
 rw [e,h1] at h2
 cases h2
theorem xR (h:RS w0 w gx gr gR x r vt vp):gR≠gx:=fun e=>by
 have h1:=h.inn
 have h2:=h.res
 unfold Blk at h1 h2
 rw [e,h1] at h2
 cases h2
theorem more (h:RS w0 w gx gr gR x r vt vp) (hb:Below w.heap.size w w'):RS w0 w' gx gr gR x r vt vp :=
 ⟨h.inn.keep hb h.inn.lt,h.row.keep hb h.row.lt,h.res.keep hb h.res.lt,h.ne,h.bx,h.br,h.below.trans (hb.mono h.below.size),own_below h.t hb,own_below h.p hb,h.le⟩
theorem drew (h:RS w0 w gx gr gR x r vt vp):RS w0 w.drew gx gr gR x r vt vp:=h.more ⟨rfl,rfl,rfl,Nat.le_refl _,fun _ _=>rfl⟩
theorem took (h:RS w0 w gx gr gR x r vt vp) {n:Nat} (hb:Blk w' gx 176 (inV (x.rest n))) (ho:Only (· = gx) w w'):RS w0 w' gx gr gR (x.rest n) r vt vp :=
 ⟨hb,ho.blk h.row h.xr,ho.blk h.res h.xR,h.ne,h.bx,h.br,ho.below h.below h.below.size fun b e=>by subst e; exact h.bx,
   own_only h.t ho fun b hv e=>own_blk h.t h.inn (by decide) (by rw [hv]; congr 1),own_only h.p ho fun b hv e=>own_blk h.p h.inn (by decide) (by rw [hv]; congr 1),Nat.le_trans (x.rest_le n) h.le⟩
theorem set (h:RS w0 w gx gr gR x r vt vp) (i:Nat) (v:Value) (hc:(recCells r vt vp).setIfInBounds i v=recCells r' vt vp) (ht:r'.txns=r.txns) (hp:r'.pages=r.pages):RS w0 (w.setCell ⟨gr,i,none⟩ v) gx gr gR x r' vt vp :=
 ⟨(heap_setCell_other w ⟨gr,i,none⟩ gx v h.xr.symm).trans h.inn,hc ▸ h.row.set i v,(heap_setCell_other w ⟨gr,i,none⟩ gR v h.ne.symm).trans h.res,h.ne,h.bx,h.br,h.below.setCell (p:=⟨gr,i,none⟩) h.br v,
   by rw [ht]; exact own_keep h.t fun b hv=>heap_setCell_other w _ b v fun e=>own_blk h.t h.row (by decide) (by rw [hv,e]),
   by rw [hp]; exact own_keep h.p fun b hv=>heap_setCell_other w _ b v fun e=>own_blk h.p h.row (by decide) (by rw [hv,e]),h.le⟩
theorem cells (h:RS w0 w gx gr gR x r vt vp):(∃ v,w.cell? ⟨gr,1,none⟩=some v)∧True:=⟨⟨_,h.row.cell 1⟩,trivial⟩
theorem isRec (h:RS w0 w gx gr gR x r vt vp):IsRec w (recV r vt vp) r:=⟨vt,vp,rfl,.ofOwn h.t,.ofOwn h.p⟩
end RS
end Go.Proofs.YthkbcfhjmnpggaaGreat

namespace Go.Proofs.YthkbcfhjmnpggaaGreat
open Go.RowKit
abbrev rin0 (s:ByteArray) (k:Nat):Rin:=⟨s.data.toList.drop k,false⟩
theorem readR_yes {s:ByteArray} {k:Nat} (h:k≤s.size) {r:Rc} {y:Rin} (he:Rin.rec0 (rin0 s k)=(r,y)) (hb:y.bad=false) (hm:May r):readR s k=(r,(s.size:Int) - y.s.length,0):=by
 have e:=Rin.rec0_split (x0:=rin0 s k) (by rw [he]; exact hb) (by rw [he]; exact hm)
 rw [he] at e
 unfold readR
 rw [if_neg (by omega),Int.toNat_natCast,show s.data.toList.drop k=lay r++y.s from e,recP_lay hm]
 rfl
theorem readR_no {s:ByteArray} {k:Nat} (h:k≤s.size) {r:Rc} {y:Rin} (he:Rin.rec0 (rin0 s k)=(r,y)) (hn:y.bad=true∨¬ May r):readR s k=(.nil,0,3):=by
 unfold readR
 rw [if_neg (by omega),Int.toNat_natCast]
 cases hp:recP (s.data.toList.drop k) with
 | none=>rfl
 | some z =>
   exfalso
   obtain ⟨hm,hl⟩:=recP_some (x:=z.1) (r:=z.2) hp
   have e:=Rin.rec0_lay hm z.2
   rw [← hl] at e
   rw [show Rin.rec0 (rin0 s k)=(z.1,⟨z.2,false⟩) from e] at he
   cases he
   rcases hn with hn | hn
   · cases hn
   · exact hn hm
namespace Rin
theorem rowsT_le:∀ (n:Nat) (x:Rin),(rowsT n x).2.s.length≤x.s.length
 | 0,x=>Nat.le_refl _
 | n+1,x=>by
   unfold rowsT
   split
   · exact Nat.le_refl _
   · exact Nat.le_trans (rowsT_le n _) (Nat.le_trans (rest_le _ _) (Nat.le_trans (rest_le _ _) (rest_le _ _)))
theorem rowsP_le:∀ (n:Nat) (x:Rin),(rowsP n x).2.s.length≤x.s.length
 | 0,x=>Nat.le_refl _
 | n+1,x=>by
   unfold rowsP
   split
   · exact Nat.le_refl _
   · exact Nat.le_trans (rowsP_le n _) (Nat.le_trans (rest_le _ _) (rest_le _ _))
theorem texts_le (x:Rin) (k:Int) (n:Nat) (r:Rc):(texts x k n r).2.s.length≤x.s.length:=by
 unfold texts
 split
 · exact Nat.le_trans (rest_le _ _) (rest_le _ _)
 · exact rest_le _ _
theorem change_le (x:Rin) (k:Int) (r:Rc):(change x k r).2.s.length≤x.s.length:=by
 unfold change
 exact Nat.le_trans (texts_le _ _ _ _) (Nat.le_trans (rest_le _ _) (Nat.le_trans (rest_le _ _) (rest_le _ _)))
theorem rec0_le (x:Rin):(rec0 x).2.s.length≤x.s.length:=by
 unfold rec0
 simp only
 split
 ·split
  · exact Nat.le_trans (change_le _ _ _) (Nat.le_trans (rest_le _ _) (Nat.le_trans (rest_le _ _) (Nat.le_trans (rest_le _ _) (rest_le _ _))))
  ·split
   · exact Nat.le_trans (change_le _ _ _) (Nat.le_trans (rest_le _ _) (Nat.le_trans (rest_le _ _) (rest_le _ _)))
   · exact Nat.le_trans (rest_le _ _) (Nat.le_trans (rest_le _ _) (rest_le _ _))
 ·split
  ·unfold tables
   exact Nat.le_trans (rowsP_le _ _) (Nat.le_trans (rest_le _ _) (Nat.le_trans (rowsT_le _ _) (Nat.le_trans (rest_le _ _) (Nat.le_trans (rest_le _ _) (rest_le _ _)))))
  · exact rest_le _ _
end Rin
theorem rin0_le {s:ByteArray} {k:Nat} {r:Rc} {y:Rin} (he:Rin.rec0 (rin0 s k)=(r,y)):y.s.length≤s.size:=by
 have:=Rin.rec0_le (rin0 s k)
 rw [he] at this
 have h2:(rin0 s k).s.length≤s.size:=by show (s.data.toList.drop k).length≤_; rw [List.length_drop,size_bytes]; omega
 exact Nat.le_trans this h2
theorem results_tt {P:Program} {fn:Func} {p u q:Tmp} {ty:TypeId} (h:fn.results=#[.cell p ty,.tmp u,.tmp q]) (tmps:Array Value) (w:World) (g:Nat) (t:TypeId) (cs:Array Value) (d:TypeDesc)
 (hp:tmps.getD p undef=.pointer (some ⟨g,0,none⟩)) (hg:Blk w g t cs)
 (hu:P.underlying ty=some d) (hd:(match d with | .struct _ | .array _ _=>true | _=>false)=true) (hi:(P.info? ty).map (·.size)=some cs.size) :
 (results fn tmps).run P w=.ok (.tuple #[.agg cs,tmps.getD u undef,tmps.getD q undef]) w:=by
 have hp':tmps[p]?.getD undef=.pointer (some ⟨g,0,none⟩):=by simpa using hp
 simp [results,h,hp',asAddr,run_loadVar_row w g t ty cs (0,0) d hg hu hd hi]
set_option maxRecDepth 100000 in
set_option maxHeartbeats 2000000 in
theorem refRead_range (s:ByteArray) (at_:Int) (w:World) (h:at_ < 0∨(s.size:Int) < at_) :
 Calls Tryz.prog 87 #[.string s,.int .i64 at_] w (Reads3N w (readR s at_)):=by
 unfold readR
 rw [if_pos h]
 have hn:=Blk.new w 46 (recCells .nil (.slice none 0 0) (.slice none 0 0))
 have hB:Below w.heap.size w ((w.alloc (.cells (recCells .nil (.slice none 0 0) (.slice none 0 0)) 46)).setRow w.heap.size (recCells .nil (.slice none 0 0) (.slice none 0 0))):=below_setRow ((Below.refl _ _).alloc (Nat.le_refl _) _) (Nat.le_refl _) _
 have HB:=Lib.hid hB
 clear hB
 by_cases h0:at_ < 0
 ·clear h
  go_enter Tryz.func87,Tryz.ntmps87
  go_wp2_with (refine wpList_store_row rfl 46 _ _ rfl w.heap.size _ rfl rfl 46 _ hn (by kernel_rfl) rfl (by simp [recCells,Value.oneCell']) ?_)
  refine bodyPost_ret (results_tt rfl _ _ w.heap.size 46 (recCells .nil (.slice none 0 0) (.slice none 0 0)) _ rfl (hn.setRow _) Tryz.underlying46 rfl (by kernel_rfl)) rfl ?_
  exact ⟨_,_,rfl,Lists.nil _ _ rfl rfl,New.nil _,New.nil _,HB.out⟩
 ·have h1:(s.size:Int) < at_:=by omega
  clear h
  go_enter Tryz.func87,Tryz.ntmps87
  go_wp2_with (refine wpList_store_row rfl 46 _ _ rfl w.heap.size _ rfl rfl 46 _ hn (by kernel_rfl) rfl (by simp [recCells,Value.oneCell']) ?_)
  refine bodyPost_ret (results_tt rfl _ _ w.heap.size 46 (recCells .nil (.slice none 0 0) (.slice none 0 0)) _ rfl (hn.setRow _) Tryz.underlying46 rfl (by kernel_rfl)) rfl ?_
  exact ⟨_,_,rfl,Lists.nil _ _ rfl rfl,New.nil _,New.nil _,HB.out⟩
abbrev nilRow:Array Value:=recCells .nil (.slice none 0 0) (.slice none 0 0)
theorem RS.start {w w1:World} {x y:Rin} (hx:x.s.length≤maxLen) {n:Nat} (hy:y=x.rest n) (hb:Blk w1 (w.heap.size+1) 176 (inV y)) (ho:Only (· = w.heap.size+1) ((w.alloc (.cells nilRow 46)).alloc (.cells (inV x) 176)) w1) (kd:Int) :
 RS w ((w1.alloc (.cells nilRow 46)).setRow w1.heap.size (recCells { Rc.nil with kind:=kd } (.slice none 0 0) (.slice none 0 0))) (w.heap.size+1) w1.heap.size w.heap.size y { Rc.nil with kind:=kd } (.slice none 0 0) (.slice none 0 0):=by
 have hsz:=ho.size
 simp only [World.size_alloc] at hsz
 have b0:Blk w1 w.heap.size 46 nilRow:=ho.blk ((Blk.new w 46 nilRow).alloc _) (by omega)
 have hB:Below w.heap.size w w1:=ho.below (((Below.refl _ _).alloc (Nat.le_refl _) _).alloc (by simp) _) (by simp; omega) fun b e=>by omega
 have hB2:=(hB.alloc (by omega) (.cells nilRow 46))
 exact ⟨(hb.alloc _).farRow (by omega) _,(Blk.new w1 _ _).setRow _,(b0.alloc _).farRow (by omega) _,by omega,by omega,by omega,below_setRow hB2 (by omega) _,World.ownsRow_nil _ _ _ _,World.ownsRow_nil _ _ _ _,by rw [hy]; exact Nat.le_trans (x.rest_le n) hx⟩
end Go.Proofs.YthkbcfhjmnpggaaGreat
