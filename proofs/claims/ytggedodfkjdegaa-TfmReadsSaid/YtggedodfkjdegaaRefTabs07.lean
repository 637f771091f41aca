/- The document's Check: tables, characters, steps. -/
import Derived.Test.YtggedodfkjdegaaRefCheck07
namespace Go.Proofs.Ytggedodfkjdegaa
open Go.RowKit
namespace L07

set_option maxRecDepth 100000 in
set_option maxHeartbeats 4000000 in
theorem tabs1 (D : FontD) (P : FontP) (w : World) (ok : FontOk D P) (sn : SeenFont w D P) (s1 : inB D.sum 4294967296 = true) (d1 : 1048576 ≤ D.design) (d2 : D.design ≤ 2147483647) (f0 : inB D.first 256 = true) (f1 : 0 ≤ D.first) (f2 : D.first < 256) (c1 : ¬ (D.nc : Int) < 1) (c2 : ¬ 256 - D.first < (D.nc : Int)) (n1 : ¬ 256 < (D.ns : Int))
    (t0 : fixesB D.nw D.wd 1 256 true = false) : Calls Try.prog 32 #[fontV D P] w (Ret w (.bool false)) := by
  have W0 : Ext w (w.alloc (.cells #[.int .i64 D.sum, .int .i64 D.design, .int .i64 D.first, .slice P.xc D.nc P.zc, .slice P.xw D.nw P.zw, .slice P.xh D.nh P.zh, .slice P.xd D.nd P.zd, .slice P.xi D.ni P.zi, .slice P.xs D.ns P.zs, .slice P.xk D.nk P.zk, .slice P.xp D.np P.zp] 28)) := (Ext.refl _).alloc _
  have sF := sn.ext W0
  have mw : D.nw ≤ 9223372036854775807 := by have := ok.rw; unfold maxLen at this; omega
  have mh : D.nh ≤ 9223372036854775807 := by have := ok.rh; unfold maxLen at this; omega
  have md : D.nd ≤ 9223372036854775807 := by have := ok.rd; unfold maxLen at this; omega
  have mi : D.ni ≤ 9223372036854775807 := by have := ok.ri; unfold maxLen at this; omega
  have mk : D.nk ≤ 9223372036854775807 := by have := ok.rk; unfold maxLen at this; omega
  have mp : D.np ≤ 9223372036854775807 := by have := ok.rp; unfold maxLen at this; omega
  clear ok sn
  unfold fontV
  go_enter Try.func32, Try.ntmps32
  go_wp2_with (go_at_call 45; refine (in_any _ _ _).mono ?_; rintro e w' ⟨rfl, rfl⟩)
  refine (fixes_any P.xw D.nw P.zw D.wd 1 256 true _ sF.ow mw).mono ?_; rintro e w0 ⟨rfl, rfl⟩
  go_wp2_with fail
  refine (fixes_any P.xh D.nh P.zh D.hd 1 16 true _ sF.oh mh).mono ?_; rintro e w1 ⟨rfl, rfl⟩
  go_wp2_with fail
  refine (fixes_any P.xd D.nd P.zd D.dd 1 16 true _ sF.od md).mono ?_; rintro e w2 ⟨rfl, rfl⟩
  go_wp2_with fail
  refine (fixes_any P.xi D.ni P.zi D.id 1 64 true _ sF.oi mi).mono ?_; rintro e w3 ⟨rfl, rfl⟩
  go_wp2_with fail
  refine (fixes_any P.xk D.nk P.zk D.kd 0 256 false _ sF.ok mk).mono ?_; rintro e w4 ⟨rfl, rfl⟩
  go_wp2_with fail
  refine (fixes_any P.xp D.np P.zp D.pd 0 30 false _ sF.op mp).mono ?_; rintro e w5 ⟨rfl, rfl⟩
  go_wp2_with fail
  go_ret
  exact ⟨rfl, (Ext.refl _).alloc _⟩
set_option maxRecDepth 100000 in
set_option maxHeartbeats 4000000 in
theorem tabs2 (D : FontD) (P : FontP) (w : World) (ok : FontOk D P) (sn : SeenFont w D P) (s1 : inB D.sum 4294967296 = true) (d1 : 1048576 ≤ D.design) (d2 : D.design ≤ 2147483647) (f0 : inB D.first 256 = true) (f1 : 0 ≤ D.first) (f2 : D.first < 256) (c1 : ¬ (D.nc : Int) < 1) (c2 : ¬ 256 - D.first < (D.nc : Int)) (n1 : ¬ 256 < (D.ns : Int))
    (t0 : fixesB D.nw D.wd 1 256 true = true) (t1 : fixesB D.nh D.hd 1 16 true = false) : Calls Try.prog 32 #[fontV D P] w (Ret w (.bool false)) := by
  have W0 : Ext w (w.alloc (.cells #[.int .i64 D.sum, .int .i64 D.design, .int .i64 D.first, .slice P.xc D.nc P.zc, .slice P.xw D.nw P.zw, .slice P.xh D.nh P.zh, .slice P.xd D.nd P.zd, .slice P.xi D.ni P.zi, .slice P.xs D.ns P.zs, .slice P.xk D.nk P.zk, .slice P.xp D.np P.zp] 28)) := (Ext.refl _).alloc _
  have sF := sn.ext W0
  have mw : D.nw ≤ 9223372036854775807 := by have := ok.rw; unfold maxLen at this; omega
  have mh : D.nh ≤ 9223372036854775807 := by have := ok.rh; unfold maxLen at this; omega
  have md : D.nd ≤ 9223372036854775807 := by have := ok.rd; unfold maxLen at this; omega
  have mi : D.ni ≤ 9223372036854775807 := by have := ok.ri; unfold maxLen at this; omega
  have mk : D.nk ≤ 9223372036854775807 := by have := ok.rk; unfold maxLen at this; omega
  have mp : D.np ≤ 9223372036854775807 := by have := ok.rp; unfold maxLen at this; omega
  clear ok sn
  unfold fontV
  go_enter Try.func32, Try.ntmps32
  go_wp2_with (go_at_call 45; refine (in_any _ _ _).mono ?_; rintro e w' ⟨rfl, rfl⟩)
  refine (fixes_any P.xw D.nw P.zw D.wd 1 256 true _ sF.ow mw).mono ?_; rintro e w0 ⟨rfl, rfl⟩
  go_wp2_with fail
  refine (fixes_any P.xh D.nh P.zh D.hd 1 16 true _ sF.oh mh).mono ?_; rintro e w1 ⟨rfl, rfl⟩
  go_wp2_with fail
  refine (fixes_any P.xd D.nd P.zd D.dd 1 16 true _ sF.od md).mono ?_; rintro e w2 ⟨rfl, rfl⟩
  go_wp2_with fail
  refine (fixes_any P.xi D.ni P.zi D.id 1 64 true _ sF.oi mi).mono ?_; rintro e w3 ⟨rfl, rfl⟩
  go_wp2_with fail
  refine (fixes_any P.xk D.nk P.zk D.kd 0 256 false _ sF.ok mk).mono ?_; rintro e w4 ⟨rfl, rfl⟩
  go_wp2_with fail
  refine (fixes_any P.xp D.np P.zp D.pd 0 30 false _ sF.op mp).mono ?_; rintro e w5 ⟨rfl, rfl⟩
  go_wp2_with fail
  go_ret
  exact ⟨rfl, (Ext.refl _).alloc _⟩
set_option maxRecDepth 100000 in
set_option maxHeartbeats 4000000 in
theorem tabs3 (D : FontD) (P : FontP) (w : World) (ok : FontOk D P) (sn : SeenFont w D P) (s1 : inB D.sum 4294967296 = true) (d1 : 1048576 ≤ D.design) (d2 : D.design ≤ 2147483647) (f0 : inB D.first 256 = true) (f1 : 0 ≤ D.first) (f2 : D.first < 256) (c1 : ¬ (D.nc : Int) < 1) (c2 : ¬ 256 - D.first < (D.nc : Int)) (n1 : ¬ 256 < (D.ns : Int))
    (t0 : fixesB D.nw D.wd 1 256 true = true) (t1 : fixesB D.nh D.hd 1 16 true = true) (t2 : fixesB D.nd D.dd 1 16 true = false) : Calls Try.prog 32 #[fontV D P] w (Ret w (.bool false)) := by
  have W0 : Ext w (w.alloc (.cells #[.int .i64 D.sum, .int .i64 D.design, .int .i64 D.first, .slice P.xc D.nc P.zc, .slice P.xw D.nw P.zw, .slice P.xh D.nh P.zh, .slice P.xd D.nd P.zd, .slice P.xi D.ni P.zi, .slice P.xs D.ns P.zs, .slice P.xk D.nk P.zk, .slice P.xp D.np P.zp] 28)) := (Ext.refl _).alloc _
  have sF := sn.ext W0
  have mw : D.nw ≤ 9223372036854775807 := by have := ok.rw; unfold maxLen at this; omega
  have mh : D.nh ≤ 9223372036854775807 := by have := ok.rh; unfold maxLen at this; omega
  have md : D.nd ≤ 9223372036854775807 := by have := ok.rd; unfold maxLen at this; omega
  have mi : D.ni ≤ 9223372036854775807 := by have := ok.ri; unfold maxLen at this; omega
  have mk : D.nk ≤ 9223372036854775807 := by have := ok.rk; unfold maxLen at this; omega
  have mp : D.np ≤ 9223372036854775807 := by have := ok.rp; unfold maxLen at this; omega
  clear ok sn
  unfold fontV
  go_enter Try.func32, Try.ntmps32
  go_wp2_with (go_at_call 45; refine (in_any _ _ _).mono ?_; rintro e w' ⟨rfl, rfl⟩)
  refine (fixes_any P.xw D.nw P.zw D.wd 1 256 true _ sF.ow mw).mono ?_; rintro e w0 ⟨rfl, rfl⟩
  go_wp2_with fail
  refine (fixes_any P.xh D.nh P.zh D.hd 1 16 true _ sF.oh mh).mono ?_; rintro e w1 ⟨rfl, rfl⟩
  go_wp2_with fail
  refine (fixes_any P.xd D.nd P.zd D.dd 1 16 true _ sF.od md).mono ?_; rintro e w2 ⟨rfl, rfl⟩
  go_wp2_with fail
  refine (fixes_any P.xi D.ni P.zi D.id 1 64 true _ sF.oi mi).mono ?_; rintro e w3 ⟨rfl, rfl⟩
  go_wp2_with fail
  refine (fixes_any P.xk D.nk P.zk D.kd 0 256 false _ sF.ok mk).mono ?_; rintro e w4 ⟨rfl, rfl⟩
  go_wp2_with fail
  refine (fixes_any P.xp D.np P.zp D.pd 0 30 false _ sF.op mp).mono ?_; rintro e w5 ⟨rfl, rfl⟩
  go_wp2_with fail
  go_ret
  exact ⟨rfl, (Ext.refl _).alloc _⟩
set_option maxRecDepth 100000 in
set_option maxHeartbeats 4000000 in
theorem tabs4 (D : FontD) (P : FontP) (w : World) (ok : FontOk D P) (sn : SeenFont w D P) (s1 : inB D.sum 4294967296 = true) (d1 : 1048576 ≤ D.design) (d2 : D.design ≤ 2147483647) (f0 : inB D.first 256 = true) (f1 : 0 ≤ D.first) (f2 : D.first < 256) (c1 : ¬ (D.nc : Int) < 1) (c2 : ¬ 256 - D.first < (D.nc : Int)) (n1 : ¬ 256 < (D.ns : Int))
    (t0 : fixesB D.nw D.wd 1 256 true = true) (t1 : fixesB D.nh D.hd 1 16 true = true) (t2 : fixesB D.nd D.dd 1 16 true = true) (t3 : fixesB D.ni D.id 1 64 true = false) : Calls Try.prog 32 #[fontV D P] w (Ret w (.bool false)) := by
  have W0 : Ext w (w.alloc (.cells #[.int .i64 D.sum, .int .i64 D.design, .int .i64 D.first, .slice P.xc D.nc P.zc, .slice P.xw D.nw P.zw, .slice P.xh D.nh P.zh, .slice P.xd D.nd P.zd, .slice P.xi D.ni P.zi, .slice P.xs D.ns P.zs, .slice P.xk D.nk P.zk, .slice P.xp D.np P.zp] 28)) := (Ext.refl _).alloc _
  have sF := sn.ext W0
  have mw : D.nw ≤ 9223372036854775807 := by have := ok.rw; unfold maxLen at this; omega
  have mh : D.nh ≤ 9223372036854775807 := by have := ok.rh; unfold maxLen at this; omega
  have md : D.nd ≤ 9223372036854775807 := by have := ok.rd; unfold maxLen at this; omega
  have mi : D.ni ≤ 9223372036854775807 := by have := ok.ri; unfold maxLen at this; omega
  have mk : D.nk ≤ 9223372036854775807 := by have := ok.rk; unfold maxLen at this; omega
  have mp : D.np ≤ 9223372036854775807 := by have := ok.rp; unfold maxLen at this; omega
  clear ok sn
  unfold fontV
  go_enter Try.func32, Try.ntmps32
  go_wp2_with (go_at_call 45; refine (in_any _ _ _).mono ?_; rintro e w' ⟨rfl, rfl⟩)
  refine (fixes_any P.xw D.nw P.zw D.wd 1 256 true _ sF.ow mw).mono ?_; rintro e w0 ⟨rfl, rfl⟩
  go_wp2_with fail
  refine (fixes_any P.xh D.nh P.zh D.hd 1 16 true _ sF.oh mh).mono ?_; rintro e w1 ⟨rfl, rfl⟩
  go_wp2_with fail
  refine (fixes_any P.xd D.nd P.zd D.dd 1 16 true _ sF.od md).mono ?_; rintro e w2 ⟨rfl, rfl⟩
  go_wp2_with fail
  refine (fixes_any P.xi D.ni P.zi D.id 1 64 true _ sF.oi mi).mono ?_; rintro e w3 ⟨rfl, rfl⟩
  go_wp2_with fail
  refine (fixes_any P.xk D.nk P.zk D.kd 0 256 false _ sF.ok mk).mono ?_; rintro e w4 ⟨rfl, rfl⟩
  go_wp2_with fail
  refine (fixes_any P.xp D.np P.zp D.pd 0 30 false _ sF.op mp).mono ?_; rintro e w5 ⟨rfl, rfl⟩
  go_wp2_with fail
  go_ret
  exact ⟨rfl, (Ext.refl _).alloc _⟩
set_option maxRecDepth 100000 in
set_option maxHeartbeats 4000000 in
theorem tabs5 (D : FontD) (P : FontP) (w : World) (ok : FontOk D P) (sn : SeenFont w D P) (s1 : inB D.sum 4294967296 = true) (d1 : 1048576 ≤ D.design) (d2 : D.design ≤ 2147483647) (f0 : inB D.first 256 = true) (f1 : 0 ≤ D.first) (f2 : D.first < 256) (c1 : ¬ (D.nc : Int) < 1) (c2 : ¬ 256 - D.first < (D.nc : Int)) (n1 : ¬ 256 < (D.ns : Int))
    (t0 : fixesB D.nw D.wd 1 256 true = true) (t1 : fixesB D.nh D.hd 1 16 true = true) (t2 : fixesB D.nd D.dd 1 16 true = true) (t3 : fixesB D.ni D.id 1 64 true = true) (t4 : fixesB D.nk D.kd 0 256 false = false) : Calls Try.prog 32 #[fontV D P] w (Ret w (.bool false)) := by
  have W0 : Ext w (w.alloc (.cells #[.int .i64 D.sum, .int .i64 D.design, .int .i64 D.first, .slice P.xc D.nc P.zc, .slice P.xw D.nw P.zw, .slice P.xh D.nh P.zh, .slice P.xd D.nd P.zd, .slice P.xi D.ni P.zi, .slice P.xs D.ns P.zs, .slice P.xk D.nk P.zk, .slice P.xp D.np P.zp] 28)) := (Ext.refl _).alloc _
  have sF := sn.ext W0
  have mw : D.nw ≤ 9223372036854775807 := by have := ok.rw; unfold maxLen at this; omega
  have mh : D.nh ≤ 9223372036854775807 := by have := ok.rh; unfold maxLen at this; omega
  have md : D.nd ≤ 9223372036854775807 := by have := ok.rd; unfold maxLen at this; omega
  have mi : D.ni ≤ 9223372036854775807 := by have := ok.ri; unfold maxLen at this; omega
  have mk : D.nk ≤ 9223372036854775807 := by have := ok.rk; unfold maxLen at this; omega
  have mp : D.np ≤ 9223372036854775807 := by have := ok.rp; unfold maxLen at this; omega
  clear ok sn
  unfold fontV
  go_enter Try.func32, Try.ntmps32
  go_wp2_with (go_at_call 45; refine (in_any _ _ _).mono ?_; rintro e w' ⟨rfl, rfl⟩)
  refine (fixes_any P.xw D.nw P.zw D.wd 1 256 true _ sF.ow mw).mono ?_; rintro e w0 ⟨rfl, rfl⟩
  go_wp2_with fail
  refine (fixes_any P.xh D.nh P.zh D.hd 1 16 true _ sF.oh mh).mono ?_; rintro e w1 ⟨rfl, rfl⟩
  go_wp2_with fail
  refine (fixes_any P.xd D.nd P.zd D.dd 1 16 true _ sF.od md).mono ?_; rintro e w2 ⟨rfl, rfl⟩
  go_wp2_with fail
  refine (fixes_any P.xi D.ni P.zi D.id 1 64 true _ sF.oi mi).mono ?_; rintro e w3 ⟨rfl, rfl⟩
  go_wp2_with fail
  refine (fixes_any P.xk D.nk P.zk D.kd 0 256 false _ sF.ok mk).mono ?_; rintro e w4 ⟨rfl, rfl⟩
  go_wp2_with fail
  refine (fixes_any P.xp D.np P.zp D.pd 0 30 false _ sF.op mp).mono ?_; rintro e w5 ⟨rfl, rfl⟩
  go_wp2_with fail
  go_ret
  exact ⟨rfl, (Ext.refl _).alloc _⟩
set_option maxRecDepth 100000 in
set_option maxHeartbeats 4000000 in
theorem tabs6 (D : FontD) (P : FontP) (w : World) (ok : FontOk D P) (sn : SeenFont w D P) (s1 : inB D.sum 4294967296 = true) (d1 : 1048576 ≤ D.design) (d2 : D.design ≤ 2147483647) (f0 : inB D.first 256 = true) (f1 : 0 ≤ D.first) (f2 : D.first < 256) (c1 : ¬ (D.nc : Int) < 1) (c2 : ¬ 256 - D.first < (D.nc : Int)) (n1 : ¬ 256 < (D.ns : Int))
    (t0 : fixesB D.nw D.wd 1 256 true = true) (t1 : fixesB D.nh D.hd 1 16 true = true) (t2 : fixesB D.nd D.dd 1 16 true = true) (t3 : fixesB D.ni D.id 1 64 true = true) (t4 : fixesB D.nk D.kd 0 256 false = true) (t5 : fixesB D.np D.pd 0 30 false = false) : Calls Try.prog 32 #[fontV D P] w (Ret w (.bool false)) := by
  have W0 : Ext w (w.alloc (.cells #[.int .i64 D.sum, .int .i64 D.design, .int .i64 D.first, .slice P.xc D.nc P.zc, .slice P.xw D.nw P.zw, .slice P.xh D.nh P.zh, .slice P.xd D.nd P.zd, .slice P.xi D.ni P.zi, .slice P.xs D.ns P.zs, .slice P.xk D.nk P.zk, .slice P.xp D.np P.zp] 28)) := (Ext.refl _).alloc _
  have sF := sn.ext W0
  have mw : D.nw ≤ 9223372036854775807 := by have := ok.rw; unfold maxLen at this; omega
  have mh : D.nh ≤ 9223372036854775807 := by have := ok.rh; unfold maxLen at this; omega
  have md : D.nd ≤ 9223372036854775807 := by have := ok.rd; unfold maxLen at this; omega
  have mi : D.ni ≤ 9223372036854775807 := by have := ok.ri; unfold maxLen at this; omega
  have mk : D.nk ≤ 9223372036854775807 := by have := ok.rk; unfold maxLen at this; omega
  have mp : D.np ≤ 9223372036854775807 := by have := ok.rp; unfold maxLen at this; omega
  clear ok sn
  unfold fontV
  go_enter Try.func32, Try.ntmps32
  go_wp2_with (go_at_call 45; refine (in_any _ _ _).mono ?_; rintro e w' ⟨rfl, rfl⟩)
  refine (fixes_any P.xw D.nw P.zw D.wd 1 256 true _ sF.ow mw).mono ?_; rintro e w0 ⟨rfl, rfl⟩
  go_wp2_with fail
  refine (fixes_any P.xh D.nh P.zh D.hd 1 16 true _ sF.oh mh).mono ?_; rintro e w1 ⟨rfl, rfl⟩
  go_wp2_with fail
  refine (fixes_any P.xd D.nd P.zd D.dd 1 16 true _ sF.od md).mono ?_; rintro e w2 ⟨rfl, rfl⟩
  go_wp2_with fail
  refine (fixes_any P.xi D.ni P.zi D.id 1 64 true _ sF.oi mi).mono ?_; rintro e w3 ⟨rfl, rfl⟩
  go_wp2_with fail
  refine (fixes_any P.xk D.nk P.zk D.kd 0 256 false _ sF.ok mk).mono ?_; rintro e w4 ⟨rfl, rfl⟩
  go_wp2_with fail
  refine (fixes_any P.xp D.np P.zp D.pd 0 30 false _ sF.op mp).mono ?_; rintro e w5 ⟨rfl, rfl⟩
  go_wp2_with fail
  go_ret
  exact ⟨rfl, (Ext.refl _).alloc _⟩
end L07
end Go.Proofs.Ytggedodfkjdegaa

