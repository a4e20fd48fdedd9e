/- Texts that belong together, joined: RecI. -/
import Derived.Test.YthkbcfhjmnpggaaGreatK01
import Derived.Laws.StructEq
import Derived.Deep.QuietTactic
import Derived.BigQuiet
namespace Go.Proofs.YthkbcfhjmnpggaaGreat
open Go.RowKit
theorem take_eq_succ {α:Type} {l m:List α} {k:Nat} (h:l.take k=m.take k) (hl:k < l.length) (hm:k < m.length) (he:l[k]=m[k]):l.take (k+1)=m.take (k+1):=by
 rw [List.take_succ_eq_append_getElem hl,List.take_succ_eq_append_getElem hm,h,he]
theorem take_eq_all {α:Type} {l m:List α} (h:l.take l.length=m.take l.length) (hl:l.length=m.length):l=m:=by
 rwa [List.take_length,hl,List.take_length] at h
theorem ne_at {α:Type} {l m:List α} {k:Nat} (hl:k < l.length) (hm:k < m.length) (h:l[k]≠m[k]):l≠m:=by rintro rfl; exact h rfl
theorem neq3 (W:World) (x0 x1 x2 y0 y1 y2:Int):(binOp .neq 136 (.agg #[.int .i64 x0,.int .i64 x1,.int .i64 x2]) (.agg #[.int .i64 y0,.int .i64 y1,.int .i64 y2])).run Tryz.prog W=.ok (.bool (!((x0 == y0) && (x1 == y1) && (x2 == y2)))) W:=by
 by_cases h0:x0=y0 <;> by_cases h1:x1=y1 <;> by_cases h2:x2=y2 <;> simp [go_sem,h0,h1,h2]
theorem neq2 (W:World) (x0 x1 y0 y1:Int):(binOp .neq 138 (.agg #[.int .i64 x0,.int .i64 x1]) (.agg #[.int .i64 y0,.int .i64 y1])).run Tryz.prog W=.ok (.bool (!((x0 == y0) && (x1 == y1)))) W:=by
 by_cases h0:x0=y0 <;> by_cases h1:x1=y1 <;> simp [go_sem,h0,h1]
set_option maxRecDepth 100000 in
set_option maxHeartbeats 4000000 in
theorem equal3_any {w:World} {va vb:Value} {l m:List Row3} (ha:Elems w va l.length (rows3 l)) (hb:Elems w vb m.length (rows3 m)) (yes:Bool) (hy:yes=decide (l=m)) :
 Calls Tryz.prog 102 #[va,vb] w fun e w'=>e=.returned (.bool yes)∧Below w.heap.size w w':=by
 have HY:=Lib.hid hy
 have HA:=Lib.hid ha
 have HB:=Lib.hid hb
 have hla:=ha.le
 have hlb:=hb.le
 unfold maxLen at hla hlb
 obtain ⟨aa,ac,hva⟩:=ha.form
 obtain ⟨ba,bc,hvb⟩:=hb.form
 subst hva hvb
 clear hy ha hb
 by_cases hlen:l.length=m.length
 ·have hl1:((l.length:Int) != m.length)=false:=by simp [hlen]
  have HL:=Lib.hid hlen
  have hl2:l.length≤m.length:=by omega
  clear hlen
  go_enter Tryz.func102,Tryz.ntmps102
  go_wp2
  go_loopw [13] (fun vk wr=>∃ k:Nat,k≤l.length∧vk=.int .i64 k∧l.take k=m.take k∧Below w.heap.size w wr) (fun vk _=>l.length - (intOf vk).toNat)
  case atStart=>exact ⟨0,Nat.zero_le _,rfl,by simp,Below.refl _ _⟩
  case round =>
   obtain ⟨k,hk,rfl,htk,hB⟩:=hrel
   have HT:=Lib.hid htk
   clear htk
   by_cases hlt:k < l.length
   ·have hltm:k < m.length:=by omega
    obtain ⟨b1,off1,cap1,hv,_,_,hbl1,hc1⟩:=HA.out.at3 (fun e=>by rw [e] at hlt; simp at hlt)
    simp only [Value.slice.injEq] at hv
    obtain ⟨rfl,_,rfl⟩:=hv
    obtain ⟨b2,off2,cap2,hv,_,_,hbl2,hc2⟩:=HB.out.at3 (fun e=>by rw [e] at hltm; simp at hltm)
    simp only [Value.slice.injEq] at hv
    obtain ⟨rfl,_,rfl⟩:=hv
    obtain ⟨d0,d1,d2⟩:=hc1 k hlt
    obtain ⟨e0,e1,e2⟩:=hc2 k hltm
    have hk1:=fun x=>hB.cell (p:=⟨b1,x,none⟩) hbl1
    have hk2:=fun x=>hB.cell (p:=⟨b2,x,none⟩) hbl2
    replace d0:=(hk1 _).trans d0
    replace e0:=(hk2 _).trans e0
    replace d1:=(hk1 _).trans d1
    replace e1:=(hk2 _).trans e1
    replace d2:=(hk1 _).trans d2
    replace e2:=(hk2 _).trans e2
    have HS:=Lib.hid (fun he=>take_eq_succ HT.out hlt hltm he)
    have HN:=Lib.hid (fun he=>ne_at hlt hltm he)
    have HE:=Lib.hid (show l[k]=m[k]↔l[k].1=m[k].1∧l[k].2.1=m[k].2.1∧l[k].2.2=m[k].2.2 from by simp [Prod.ext_iff])
    generalize l[k].1=x0 at *
    generalize m[k].1=y0 at *
    generalize l[k].2.1=x1 at *
    generalize m[k].2.1=y1 at *
    generalize l[k].2.2=x2 at *
    generalize m[k].2.2=y2 at *
    clear hk1 hk2 hc1 hc2
    have hrun:∀ W,(binOp .neq 136 (.agg #[.int .i64 x0,.int .i64 x1,.int .i64 x2]) (.agg #[.int .i64 y0,.int .i64 y1,.int .i64 y2])).run Tryz.prog W=.ok (.bool (!((x0 == y0) && (x1 == y1) && (x2 == y2)))) W:=fun W=>neq3 W x0 x1 x2 y0 y1 y2
    by_cases heq:x0=y0∧x1=y1∧x2=y2
    ·have hb1:(!((x0 == y0) && (x1 == y1) && (x2 == y2)))=false:=by obtain ⟨h0,h1,h2⟩:=heq; simp [h0,h1,h2]
     have HQ:=Lib.hid (HS.out (HE.out.2 heq))
     clear heq HE HS HN
     rw [hb1] at hrun
     go_wp2_with fail
     go_quiet (fail)
     go_wp2
     go_roundw
     case rel=>exact ⟨k+1,by omega,by go_num,HQ.out,belowN hB _⟩
     case measure=>simp [intOf]; omega
    ·have hb1:(!((x0 == y0) && (x1 == y1) && (x2 == y2)))=true:=by simp; omega
     have hno:yes=false:=by rw [HY.out,decide_eq_false (HN.out fun h=>heq (HE.out.1 h))]
     subst hno
     clear heq HE HS HN HY
     rw [hb1] at hrun
     go_wp2_with fail
     go_quiet (fail)
     go_wp2
     go_ret
     exact ⟨rfl,belowN hB _⟩
   ·obtain rfl:k=l.length:=by omega
    have hyes:yes=true:=by rw [HY.out,decide_eq_true (take_eq_all HT.out HL.out)]
    subst hyes
    clear HY
    go_wp2
    go_ret
    exact ⟨rfl,hB⟩
 ·have hl1:((l.length:Int) != m.length)=true:=by simp; omega
  have hno:yes=false:=by rw [HY.out,decide_eq_false (by rintro rfl; exact hlen rfl)]
  subst hno
  clear HY hlen
  go_enter Tryz.func102,Tryz.ntmps102
  go_wp2
  go_ret
  exact ⟨rfl,Below.refl _ _⟩
set_option maxRecDepth 100000 in
set_option maxHeartbeats 4000000 in
theorem equal2_any {w:World} {va vb:Value} {l m:List Row2} (ha:Elems w va l.length (rows2 l)) (hb:Elems w vb m.length (rows2 m)) (yes:Bool) (hy:yes=decide (l=m)) :
 Calls Tryz.prog 103 #[va,vb] w fun e w'=>e=.returned (.bool yes)∧Below w.heap.size w w':=by
 have HY:=Lib.hid hy
 have HA:=Lib.hid ha
 have HB:=Lib.hid hb
 have hla:=ha.le
 have hlb:=hb.le
 unfold maxLen at hla hlb
 obtain ⟨aa,ac,hva⟩:=ha.form
 obtain ⟨ba,bc,hvb⟩:=hb.form
 subst hva hvb
 clear hy ha hb
 by_cases hlen:l.length=m.length
 ·have hl1:((l.length:Int) != m.length)=false:=by simp [hlen]
  have HL:=Lib.hid hlen
  have hl2:l.length≤m.length:=by omega
  clear hlen
  go_enter Tryz.func103,Tryz.ntmps103
  go_wp2
  go_loopw [13] (fun vk wr=>∃ k:Nat,k≤l.length∧vk=.int .i64 k∧l.take k=m.take k∧Below w.heap.size w wr) (fun vk _=>l.length - (intOf vk).toNat)
  case atStart=>exact ⟨0,Nat.zero_le _,rfl,by simp,Below.refl _ _⟩
  case round =>
   obtain ⟨k,hk,rfl,htk,hB⟩:=hrel
   have HT:=Lib.hid htk
   clear htk
   by_cases hlt:k < l.length
   ·have hltm:k < m.length:=by omega
    obtain ⟨b1,off1,cap1,hv,_,_,hbl1,hc1⟩:=HA.out.at2 (fun e=>by rw [e] at hlt; simp at hlt)
    simp only [Value.slice.injEq] at hv
    obtain ⟨rfl,_,rfl⟩:=hv
    obtain ⟨b2,off2,cap2,hv,_,_,hbl2,hc2⟩:=HB.out.at2 (fun e=>by rw [e] at hltm; simp at hltm)
    simp only [Value.slice.injEq] at hv
    obtain ⟨rfl,_,rfl⟩:=hv
    obtain ⟨d0,d1⟩:=hc1 k hlt
    obtain ⟨e0,e1⟩:=hc2 k hltm
    have hk1:=fun x=>hB.cell (p:=⟨b1,x,none⟩) hbl1
    have hk2:=fun x=>hB.cell (p:=⟨b2,x,none⟩) hbl2
    replace d0:=(hk1 _).trans d0
    replace e0:=(hk2 _).trans e0
    replace d1:=(hk1 _).trans d1
    replace e1:=(hk2 _).trans e1
    have HS:=Lib.hid (fun he=>take_eq_succ HT.out hlt hltm he)
    have HN:=Lib.hid (fun he=>ne_at hlt hltm he)
    have HE:=Lib.hid (show l[k]=m[k]↔l[k].1=m[k].1∧l[k].2=m[k].2 from by simp [Prod.ext_iff])
    generalize l[k].1=x0 at *
    generalize m[k].1=y0 at *
    generalize l[k].2=x1 at *
    generalize m[k].2=y1 at *
    clear hk1 hk2 hc1 hc2
    have hrun:∀ W,(binOp .neq 138 (.agg #[.int .i64 x0,.int .i64 x1]) (.agg #[.int .i64 y0,.int .i64 y1])).run Tryz.prog W=.ok (.bool (!((x0 == y0) && (x1 == y1)))) W:=fun W=>neq2 W x0 x1 y0 y1
    by_cases heq:x0=y0∧x1=y1
    ·have hb1:(!((x0 == y0) && (x1 == y1)))=false:=by obtain ⟨h0,h1⟩:=heq; simp [h0,h1]
     have HQ:=Lib.hid (HS.out (HE.out.2 heq))
     clear heq HE HS HN
     rw [hb1] at hrun
     go_wp2_with fail
     go_quiet (fail)
     go_wp2
     go_roundw
     case rel=>exact ⟨k+1,by omega,by go_num,HQ.out,belowN hB _⟩
     case measure=>simp [intOf]; omega
    ·have hb1:(!((x0 == y0) && (x1 == y1)))=true:=by simp; omega
     have hno:yes=false:=by rw [HY.out,decide_eq_false (HN.out fun h=>heq (HE.out.1 h))]
     subst hno
     clear heq HE HS HN HY
     rw [hb1] at hrun
     go_wp2_with fail
     go_quiet (fail)
     go_wp2
     go_ret
     exact ⟨rfl,belowN hB _⟩
   ·obtain rfl:k=l.length:=by omega
    have hyes:yes=true:=by rw [HY.out,decide_eq_true (take_eq_all HT.out HL.out)]
    subst hyes
    clear HY
    go_wp2
    go_ret
    exact ⟨rfl,hB⟩
 ·have hl1:((l.length:Int) != m.length)=true:=by simp; omega
  have hno:yes=false:=by rw [HY.out,decide_eq_false (by rintro rfl; exact hlen rfl)]
  subst hno
  clear HY hlen
  go_enter Tryz.func103,Tryz.ntmps103
  go_wp2
  go_ret
  exact ⟨rfl,Below.refl _ _⟩
end Go.Proofs.YthkbcfhjmnpggaaGreat
