/- Texts that belong together, joined: RecK. -/
import Derived.Test.YthkbcfhjmnpggaaGreatK06
namespace Go.Proofs.YthkbcfhjmnpggaaGreat
open Go.RowKit
section
variable {w:World} {va vb:Value}
def Heads (a b:Rc):Prop:=(a.kind=b.kind∧a.txn=b.txn∧a.page=b.page∧a.off=b.off∧a.prev=b.prev∧a.next=b.next∧a.beg=b.beg∧a.before.toList=b.before.toList∧a.after.toList=b.after.toList)∧((a.txns.length:Int)=b.txns.length∧(a.pages.length:Int)=b.pages.length)
set_option maxRecDepth 100000 in
set_option maxHeartbeats 16000000 in
theorem refSame_no {a b:Rc} (ha:IsRec w va a) (hb:IsRec w vb b) (hP:¬ Heads a b) :
 Calls Tryz.prog 64 #[va,vb] w fun e w'=>e=.returned (.bool false)∧Below w.heap.size w w':=by
 obtain ⟨at_,ap,rfl,la⟩:=ha
 obtain ⟨bt,bp,rfl,lb⟩:=hb
 have HP:=Lib.hid hP
 have hl1:=la.t.le
 have hl2:=lb.t.le
 have hl3:=la.p.le
 have hl4:=lb.p.le
 unfold maxLen at hl1 hl2 hl3 hl4
 obtain ⟨ata,atc,e⟩:=la.t.form
 subst e
 obtain ⟨apa,apc,e⟩:=la.p.form
 subst e
 obtain ⟨bta,btc,e⟩:=lb.t.form
 subst e
 obtain ⟨bpa,bpc,e⟩:=lb.p.form
 subst e
 clear hP la lb
 unfold recV recCells
 go_enter Tryz.func64,Tryz.ntmps64
 go_wp2_with fail
 all_goals first
  | (go_ret; exact ⟨rfl,((Below.refl _ _).alloc (Nat.le_refl _) _).alloc (by simp) _⟩)
  | (exfalso; refine HP.out ⟨⟨?_,?_,?_,?_,?_,?_,?_,?_,?_⟩,?_,?_⟩ <;> first | assumption | (simpa using ‹((a.pages.length:Int) != (b.pages.length:Int))=false›))
set_option maxRecDepth 100000 in
set_option maxHeartbeats 16000000 in
theorem refSame_heads {a:Rc} {ts:List Row3} {ps:List Row2} {at_ ap bt bp:Value} (la:Lists w a at_ ap) (lb:Lists w { a with txns:=ts,pages:=ps } bt bp) (h1:a.txns.length=ts.length) (h2:a.pages.length=ps.length) (yes:Bool) (hy:yes=(decide (a.txns=ts) && decide (a.pages=ps))) :
 Calls Tryz.prog 64 #[recV a at_ ap,recV { a with txns:=ts,pages:=ps } bt bp] w fun e w'=>e=.returned (.bool yes)∧Below w.heap.size w w':=by
 have HY:=Lib.hid hy
 have A3:=Lib.hid la.t
 have B3:Hid (Elems w bt ts.length (rows3 ts)):=lb.t
 have A2:=Lib.hid la.p
 have B2:Hid (Elems w bp ps.length (rows2 ps)):=lb.p
 have hl1:=A3.out.le
 have hl3:=A2.out.le
 unfold maxLen at hl1 hl3
 obtain ⟨ata,atc,e⟩:=la.t.form
 subst e
 obtain ⟨apa,apc,e⟩:=la.p.form
 subst e
 obtain ⟨bta,btc,e⟩:=B3.out.form
 subst e
 obtain ⟨bpa,bpc,e⟩:=B2.out.form
 subst e
 have hq1:((a.txns.length:Int) != ts.length)=false:=by simp [h1]
 have hq2:((a.pages.length:Int) != ps.length)=false:=by simp [h2]
 have E1:=Lib.hid h1
 have E2:=Lib.hid h2
 have hle1:a.txns.length≤ts.length:=by omega
 have hle2:a.pages.length≤ps.length:=by omega
 clear hy la lb h1 h2
 unfold recV recCells
 go_enter Tryz.func64,Tryz.ntmps64
 go_wp2_with fail
 have hB0:Below w.heap.size w ((w.alloc (.cells (recCells a (.slice ata a.txns.length atc) (.slice apa a.pages.length apc)) 46)).alloc (.cells (recCells { a with txns:=ts,pages:=ps } (.slice bta ts.length btc) (.slice bpa ps.length bpc)) 46)):=((Below.refl _ _).alloc (Nat.le_refl _) _).alloc (by simp) _
 have P0:Blk ((w.alloc (.cells (recCells a (.slice ata a.txns.length atc) (.slice apa a.pages.length apc)) 46)).alloc (.cells (recCells { a with txns:=ts,pages:=ps } (.slice bta ts.length btc) (.slice bpa ps.length bpc)) 46)) w.heap.size 46 (recCells a (.slice ata a.txns.length atc) (.slice apa a.pages.length apc)):=(Blk.new _ _ _).alloc _
 have Q0:=Blk.new (w.alloc (.cells (recCells a (.slice ata a.txns.length atc) (.slice apa a.pages.length apc)) 46)) 46 (recCells { a with txns:=ts,pages:=ps } (.slice bta ts.length btc) (.slice bpa ps.length bpc))
 rw [World.size_alloc] at Q0
 change Code.wp _ _ _ _ ((w.alloc (.cells (recCells a (.slice ata a.txns.length atc) (.slice apa a.pages.length apc)) 46)).alloc (.cells (recCells { a with txns:=ts,pages:=ps } (.slice bta ts.length btc) (.slice bpa ps.length bpc)) 46))
 generalize (w.alloc (.cells (recCells a (.slice ata a.txns.length atc) (.slice apa a.pages.length apc)) 46)).alloc (.cells (recCells { a with txns:=ts,pages:=ps } (.slice bta ts.length btc) (.slice bpa ps.length bpc)) 46)=W0 at *
 have HB0:=Lib.hid hB0
 have PP:=Lib.hid P0
 have QQ:=Lib.hid Q0
 clear hB0 P0 Q0
 go_loopw [5] (fun vk wr=>∃ k:Nat,k≤a.txns.length∧vk=.int .i64 k∧a.txns.take k=ts.take k∧Below w.heap.size w wr∧Blk wr w.heap.size 46 (recCells a (.slice ata a.txns.length atc) (.slice apa a.pages.length apc))∧Blk wr (w.heap.size+1) 46 (recCells { a with txns:=ts,pages:=ps } (.slice bta ts.length btc) (.slice bpa ps.length bpc))) (fun vk _=>a.txns.length - (intOf vk).toNat)
 case atStart=>exact ⟨0,Nat.zero_le _,rfl,by simp,HB0.out,PP.out,QQ.out⟩
 case round =>
  obtain ⟨k,hk,rfl,htk,hB,hp,hq⟩:=hrel
  have HT:=Lib.hid htk
  have pc:=hp.cell 9
  have qc:=hq.cell 9
  simp [recCells] at pc qc
  have HP:=Lib.hid hp
  have HQ:=Lib.hid hq
  clear htk hp hq HB0 PP QQ
  by_cases hlt:k < a.txns.length
  ·have hltm:k < ts.length:=by omega
   obtain ⟨b1,off1,cap1,hv,_,_,hbl1,hc1⟩:=A3.out.at3 (fun e=>by rw [e] at hlt; simp at hlt)
   simp only [Value.slice.injEq] at hv
   obtain ⟨rfl,_,rfl⟩:=hv
   obtain ⟨b2,off2,cap2,hv,_,_,hbl2,hc2⟩:=B3.out.at3 (fun e=>by rw [e] at hltm; simp at hltm)
   simp only [Value.slice.injEq] at hv
   obtain ⟨rfl,_,rfl⟩:=hv
   obtain ⟨d0,d1,d2⟩:=hc1 k hlt
   obtain ⟨e0,e1,e2⟩:=hc2 k hltm
   have hk1:=fun x=>hB.cell (p:=⟨b1,x,none⟩) hbl1
   have hk2:=fun x=>hB.cell (p:=⟨b2,x,none⟩) hbl2
   replace d0:=(hk1 _).trans d0
   replace e0:=(hk2 _).trans e0
   replace d1:=(hk1 _).trans d1
   replace e1:=(hk2 _).trans e1
   replace d2:=(hk1 _).trans d2
   replace e2:=(hk2 _).trans e2
   have HS:=Lib.hid (fun he=>take_eq_succ HT.out hlt hltm he)
   have HN:=Lib.hid (fun he=>ne_at hlt hltm he)
   have HE:=Lib.hid (show a.txns[k]=ts[k]↔a.txns[k].1=ts[k].1∧a.txns[k].2.1=ts[k].2.1∧a.txns[k].2.2=ts[k].2.2 from by simp [Prod.ext_iff])
   generalize a.txns[k].1=x0 at *
   generalize ts[k].1=y0 at *
   generalize a.txns[k].2.1=x1 at *
   generalize ts[k].2.1=y1 at *
   generalize a.txns[k].2.2=x2 at *
   generalize ts[k].2.2=y2 at *
   clear hk1 hk2 hc1 hc2
   have hrun:∀ W,(binOp .neq 136 (.agg #[.int .i64 x0,.int .i64 x1,.int .i64 x2]) (.agg #[.int .i64 y0,.int .i64 y1,.int .i64 y2])).run Tryz.prog W=.ok (.bool (!((x0 == y0) && (x1 == y1) && (x2 == y2)))) W:=fun W=>neq3 W x0 x1 x2 y0 y1 y2
   by_cases heq:x0=y0∧x1=y1∧x2=y2
   ·have hb1:(!((x0 == y0) && (x1 == y1) && (x2 == y2)))=false:=by obtain ⟨h0,h1,h2⟩:=heq; simp [h0,h1,h2]
    have HX:=Lib.hid (HS.out (HE.out.2 heq))
    clear heq HE HS HN
    rw [hb1] at hrun
    go_wp2_with fail
    go_quiet (fail)
    go_wp2
    go_roundw
    case rel=>exact ⟨k+1,by omega,by go_num,HX.out,belowN hB _,HP.out.drewN _,HQ.out.drewN _⟩
    case measure=>simp [intOf]; omega
   ·have hb1:(!((x0 == y0) && (x1 == y1) && (x2 == y2)))=true:=by simp; omega
    have hne:=HN.out fun h=>heq (HE.out.1 h)
    have hno:yes=false:=by rw [HY.out,decide_eq_false hne]; simp
    subst hno
    clear heq HE HS HN HY hne
    rw [hb1] at hrun
    go_wp2_with fail
    go_quiet (fail)
    go_wp2
    go_ret
    exact ⟨rfl,belowN hB _⟩
  ·obtain rfl:k=a.txns.length:=by omega
   have heq:=take_eq_all HT.out E1.out
   have hyes:yes=decide (a.pages=ps):=by rw [HY.out,decide_eq_true heq]; simp
   replace HY:=Lib.hid hyes
   have HB0:=Lib.hid hB
   have PP:=HP
   have QQ:=HQ
   clear hyes heq hB HP HQ hlt HT
   go_wp2_with fail
   clear pc qc
   go_loopw [6] (fun vk wr=>∃ k:Nat,k≤a.pages.length∧vk=.int .i64 k∧a.pages.take k=ps.take k∧Below w.heap.size w wr∧Blk wr w.heap.size 46 (recCells a (.slice ata a.txns.length atc) (.slice apa a.pages.length apc))∧Blk wr (w.heap.size+1) 46 (recCells { a with txns:=ts,pages:=ps } (.slice bta ts.length btc) (.slice bpa ps.length bpc))) (fun vk _=>a.pages.length - (intOf vk).toNat)
   case atStart=>exact ⟨0,Nat.zero_le _,rfl,by simp,HB0.out,PP.out,QQ.out⟩
   case round =>
    obtain ⟨k,hk,rfl,htk,hB,hp,hq⟩:=hrel
    have HT:=Lib.hid htk
    have pc:=hp.cell 10
    have qc:=hq.cell 10
    simp [recCells] at pc qc
    have HP:=Lib.hid hp
    have HQ:=Lib.hid hq
    clear htk hp hq HB0 PP QQ
    by_cases hlt:k < a.pages.length
    ·have hltm:k < ps.length:=by omega
     obtain ⟨b1,off1,cap1,hv,_,_,hbl1,hc1⟩:=A2.out.at2 (fun e=>by rw [e] at hlt; simp at hlt)
     simp only [Value.slice.injEq] at hv
     obtain ⟨rfl,_,rfl⟩:=hv
     obtain ⟨b2,off2,cap2,hv,_,_,hbl2,hc2⟩:=B2.out.at2 (fun e=>by rw [e] at hltm; simp at hltm)
     simp only [Value.slice.injEq] at hv
     obtain ⟨rfl,_,rfl⟩:=hv
     obtain ⟨d0,d1⟩:=hc1 k hlt
     obtain ⟨e0,e1⟩:=hc2 k hltm
     have hk1:=fun x=>hB.cell (p:=⟨b1,x,none⟩) hbl1
     have hk2:=fun x=>hB.cell (p:=⟨b2,x,none⟩) hbl2
     replace d0:=(hk1 _).trans d0
     replace e0:=(hk2 _).trans e0
     replace d1:=(hk1 _).trans d1
     replace e1:=(hk2 _).trans e1
     have HS:=Lib.hid (fun he=>take_eq_succ HT.out hlt hltm he)
     have HN:=Lib.hid (fun he=>ne_at hlt hltm he)
     have HE:=Lib.hid (show a.pages[k]=ps[k]↔a.pages[k].1=ps[k].1∧a.pages[k].2=ps[k].2 from by simp [Prod.ext_iff])
     generalize a.pages[k].1=x0 at *
     generalize ps[k].1=y0 at *
     generalize a.pages[k].2=x1 at *
     generalize ps[k].2=y1 at *
     clear hk1 hk2 hc1 hc2
     have hrun:∀ W,(binOp .neq 138 (.agg #[.int .i64 x0,.int .i64 x1]) (.agg #[.int .i64 y0,.int .i64 y1])).run Tryz.prog W=.ok (.bool (!((x0 == y0) && (x1 == y1)))) W:=fun W=>neq2 W x0 x1 y0 y1
     by_cases heq:x0=y0∧x1=y1
     ·have hb1:(!((x0 == y0) && (x1 == y1)))=false:=by obtain ⟨h0,h1⟩:=heq; simp [h0,h1]
      have HX:=Lib.hid (HS.out (HE.out.2 heq))
      clear heq HE HS HN
      rw [hb1] at hrun
      go_wp2_with fail
      go_quiet (fail)
      go_wp2
      go_roundw
      case rel=>exact ⟨k+1,by omega,by go_num,HX.out,belowN hB _,HP.out.drewN _,HQ.out.drewN _⟩
      case measure=>simp [intOf]; omega
     ·have hb1:(!((x0 == y0) && (x1 == y1)))=true:=by simp; omega
      have hne:=HN.out fun h=>heq (HE.out.1 h)
      have hno:yes=false:=by rw [HY.out,decide_eq_false hne]
      subst hno
      clear heq HE HS HN HY hne
      rw [hb1] at hrun
      go_wp2_with fail
      go_quiet (fail)
      go_wp2
      go_ret
      exact ⟨rfl,belowN hB _⟩
    ·obtain rfl:k=a.pages.length:=by omega
     have heq:=take_eq_all HT.out E2.out
     have hyes:yes=true:=by rw [HY.out,decide_eq_true heq]
     subst hyes
     clear HY heq
     go_wp2
     go_ret
     exact ⟨rfl,hB⟩
theorem refSame_any {a b:Rc} (ha:IsRec w va a) (hb:IsRec w vb b) (yes:Bool) (hy:yes=decide (a=b)) :
 Calls Tryz.prog 64 #[va,vb] w fun e w'=>e=.returned (.bool yes)∧Below w.heap.size w w':=by
 by_cases hP:Heads a b
 ·obtain ⟨at_,ap,rfl,la⟩:=ha
  obtain ⟨bt,bp,rfl,lb⟩:=hb
  obtain ⟨⟨h1,h2,h3,h4,h5,h6,h7,h8,h9⟩,h10,h11⟩:=hP
  have h8':a.before=b.before:=str_ext (by simpa only [ByteArray.toList_eq] using h8)
  have h9':a.after=b.after:=str_ext (by simpa only [ByteArray.toList_eq] using h9)
  obtain ⟨ts,ps,rfl⟩:∃ ts ps,b = { a with txns:=ts,pages:=ps }:=⟨b.txns,b.pages,Rc.ext11 h1.symm h2.symm h3.symm h4.symm h5.symm h6.symm h7.symm h8'.symm h9'.symm rfl rfl⟩
  have h10':(a.txns.length:Int)=ts.length:=h10
  have h11':(a.pages.length:Int)=ps.length:=h11
  refine refSame_heads la lb (by omega) (by omega) yes ?_
  rw [hy,← Bool.decide_and]
  refine decide_eq_decide.2 ⟨fun h=>⟨congrArg Rc.txns h,congrArg Rc.pages h⟩,fun h=>Rc.ext11 rfl rfl rfl rfl rfl rfl rfl rfl rfl h.1 h.2⟩
 ·have hno:yes=false:=by
   rw [hy]
   refine decide_eq_false ?_
   rintro rfl
   exact hP ⟨⟨rfl,rfl,rfl,rfl,rfl,rfl,rfl,rfl,rfl⟩,rfl,rfl⟩
  subst hno
  exact refSame_no ha hb hP
end
end Go.Proofs.YthkbcfhjmnpggaaGreat
