import Derived.Test.YtedihojbnpodgaaGreatQ01
import Derived.Test.YtedihojbnpodgaaGreatQ02
import Derived.Test.YtedihojbnpodgaaGreatProg
set_option linter.unusedSimpArgs false
set_option linter.unusedVariables false
set_option maxRecDepth 100000
set_option maxHeartbeats 4000000
namespace Go.VI
def te:TE:=[
 ⟨1,(.raw .fn),0,[],8,false,none⟩,
 ⟨2,(.int .i64),0,[],8,true,none⟩,
 ⟨3,(.int .i64),0,[],8,true,none⟩,
 ⟨4,.bool,0,[],1,true,none⟩,
 ⟨5,(.int .u8),0,[],1,true,none⟩,
 ⟨6,(.int .u8),0,[],1,true,none⟩,
 ⟨7,(.prod (.int .i64) (.prod (.int .i64) (.prod .bool (.prod (.int .u8) .unit)))),0,[(0,(.int .i64)),(1,(.int .i64)),(2,.bool),(3,(.int .u8))],24,true,none⟩,
 ⟨8,(.prod (.int .i64) (.prod (.int .i64) (.prod .bool (.prod (.int .u8) .unit)))),0,[(0,(.int .i64)),(1,(.int .i64)),(2,.bool),(3,(.int .u8))],24,true,none⟩,
 ⟨12,(.int .u64),0,[],8,true,none⟩,
 ⟨18,(.prod (.raw .ptr) .unit),0,[(0,(.raw .ptr))],8,false,none⟩,
 ⟨19,(.prod (.raw .ptr) .unit),0,[(0,(.raw .ptr))],8,false,none⟩,
 ⟨20,(.raw .ifc),0,[],16,false,none⟩,
 ⟨21,(.int .i32),0,[],4,true,none⟩,
 ⟨22,(.prod (.int .i64) (.prod (.int .i64) .unit)),0,[(0,(.int .i64)),(1,(.int .i64))],16,true,none⟩,
 ⟨23,(.prod (.int .i64) (.prod (.int .i64) .unit)),0,[(0,(.int .i64)),(1,(.int .i64))],16,true,none⟩,
 ⟨24,(.slice (.int .u64)),48,[],8,false,none⟩,
 ⟨25,(.slice (.prod (.int .i64) (.prod (.int .i64) (.prod (.int .i64) (.prod (.int .i64) .unit))))),76,[],32,false,none⟩,
 ⟨26,(.prod (.prod (.int .i64) (.prod (.int .i64) .unit)) (.prod (.slice (.int .u64)) (.prod (.slice (.prod (.int .i64) (.prod (.int .i64) (.prod (.int .i64) (.prod (.int .i64) .unit))))) (.prod (.int .i64) (.prod (.int .i64) .unit))))),0,[(0,(.prod (.int .i64) (.prod (.int .i64) .unit))),(2,(.slice (.int .u64))),(3,(.slice (.prod (.int .i64) (.prod (.int .i64) (.prod (.int .i64) (.prod (.int .i64) .unit)))))),(4,(.int .i64)),(5,(.int .i64))],80,false,none⟩,
 ⟨27,(.prod (.prod (.int .i64) (.prod (.int .i64) .unit)) (.prod (.slice (.int .u64)) (.prod (.slice (.prod (.int .i64) (.prod (.int .i64) (.prod (.int .i64) (.prod (.int .i64) .unit))))) (.prod (.int .i64) (.prod (.int .i64) .unit))))),0,[(0,(.prod (.int .i64) (.prod (.int .i64) .unit))),(2,(.slice (.int .u64))),(3,(.slice (.prod (.int .i64) (.prod (.int .i64) (.prod (.int .i64) (.prod (.int .i64) .unit)))))),(4,(.int .i64)),(5,(.int .i64))],80,false,none⟩,
 ⟨28,(.slice (.int .i64)),3,[],8,false,none⟩,
 ⟨29,(.raw .fn),0,[],8,false,none⟩,
 ⟨30,(.prod (.prod (.prod (.int .i64) (.prod (.int .i64) .unit)) (.prod (.slice (.int .u64)) (.prod (.slice (.prod (.int .i64) (.prod (.int .i64) (.prod (.int .i64) (.prod (.int .i64) .unit))))) (.prod (.int .i64) (.prod (.int .i64) .unit))))) (.prod (.slice (.int .u64)) (.prod (.slice (.int .u64)) .unit))),0,[(0,(.prod (.prod (.int .i64) (.prod (.int .i64) .unit)) (.prod (.slice (.int .u64)) (.prod (.slice (.prod (.int .i64) (.prod (.int .i64) (.prod (.int .i64) (.prod (.int .i64) .unit))))) (.prod (.int .i64) (.prod (.int .i64) .unit)))))),(6,(.slice (.int .u64))),(7,(.slice (.int .u64)))],128,false,none⟩,
 ⟨31,(.prod (.prod (.prod (.int .i64) (.prod (.int .i64) .unit)) (.prod (.slice (.int .u64)) (.prod (.slice (.prod (.int .i64) (.prod (.int .i64) (.prod (.int .i64) (.prod (.int .i64) .unit))))) (.prod (.int .i64) (.prod (.int .i64) .unit))))) (.prod (.slice (.int .u64)) (.prod (.slice (.int .u64)) .unit))),0,[(0,(.prod (.prod (.int .i64) (.prod (.int .i64) .unit)) (.prod (.slice (.int .u64)) (.prod (.slice (.prod (.int .i64) (.prod (.int .i64) (.prod (.int .i64) (.prod (.int .i64) .unit))))) (.prod (.int .i64) (.prod (.int .i64) .unit)))))),(6,(.slice (.int .u64))),(7,(.slice (.int .u64)))],128,false,none⟩,
 ⟨32,(.raw .fn),0,[],8,false,none⟩,
 ⟨33,(.raw .fn),0,[],8,false,none⟩,
 ⟨35,(.prod (.slice (.int .i64)) (.prod (.int .i64) .unit)),0,[(0,(.slice (.int .i64))),(1,(.int .i64))],32,false,none⟩,
 ⟨36,(.prod (.slice (.int .i64)) (.prod (.int .i64) .unit)),0,[(0,(.slice (.int .i64))),(1,(.int .i64))],32,false,none⟩,
 ⟨37,(.raw .fn),0,[],8,false,none⟩,
 ⟨38,(.raw .fn),0,[],8,false,none⟩,
 ⟨39,(.raw .fn),0,[],8,false,none⟩,
 ⟨40,(.raw .fn),0,[],8,false,none⟩,
 ⟨41,(.int .i64),0,[],8,true,none⟩,
 ⟨43,(.raw .fn),0,[],8,false,none⟩,
 ⟨44,(.raw .fn),0,[],8,false,none⟩,
 ⟨45,(.raw .fn),0,[],8,false,none⟩,
 ⟨46,(.raw .fn),0,[],8,false,none⟩,
 ⟨47,(.raw .fn),0,[],8,false,none⟩,
 ⟨48,(.int .u64),0,[],8,true,none⟩,
 ⟨49,(.slice (.prod (.prod (.int .i64) (.prod (.int .i64) .unit)) (.prod (.slice (.int .u64)) (.prod (.slice (.prod (.int .i64) (.prod (.int .i64) (.prod (.int .i64) (.prod (.int .i64) .unit))))) (.prod (.int .i64) (.prod (.int .i64) .unit)))))),27,[],80,false,none⟩,
 ⟨50,(.raw .fn),0,[],8,false,none⟩,
 ⟨51,(.raw .fn),0,[],8,false,none⟩,
 ⟨52,(.int .u32),0,[],4,true,none⟩,
 ⟨53,(.prod (.int .i64) (.prod (.int .i64) (.prod (.int .u32) .unit))),0,[(0,(.int .i64)),(1,(.int .i64)),(2,(.int .u32))],24,true,none⟩,
 ⟨54,(.prod (.int .i64) (.prod (.int .i64) (.prod (.int .u32) .unit))),0,[(0,(.int .i64)),(1,(.int .i64)),(2,(.int .u32))],24,true,none⟩,
 ⟨56,(.raw .fn),0,[],8,false,none⟩,
 ⟨57,(.raw .fn),0,[],8,false,none⟩,
 ⟨59,(.raw .fn),0,[],8,false,none⟩,
 ⟨61,(.raw .fn),0,[],8,false,none⟩,
 ⟨63,(.raw .fn),0,[],8,false,none⟩,
 ⟨64,(.raw .fn),0,[],8,false,none⟩,
 ⟨65,(.raw .fn),0,[],8,false,none⟩,
 ⟨67,(.raw .fn),0,[],8,false,none⟩,
 ⟨68,(.raw .fn),0,[],8,false,none⟩,
 ⟨69,(.raw .fn),0,[],8,false,none⟩,
 ⟨70,(.raw .fn),0,[],8,false,none⟩,
 ⟨71,(.raw .fn),0,[],8,false,none⟩,
 ⟨72,(.raw .fn),0,[],8,false,none⟩,
 ⟨73,(.raw .fn),0,[],8,false,none⟩,
 ⟨74,(.int .u64),0,[],8,true,none⟩,
 ⟨75,(.prod (.int .i64) (.prod (.int .i64) (.prod (.int .i64) (.prod (.int .i64) .unit)))),0,[(0,(.int .i64)),(1,(.int .i64)),(2,(.int .i64)),(3,(.int .i64))],32,true,none⟩,
 ⟨76,(.prod (.int .i64) (.prod (.int .i64) (.prod (.int .i64) (.prod (.int .i64) .unit)))),0,[(0,(.int .i64)),(1,(.int .i64)),(2,(.int .i64)),(3,(.int .i64))],32,true,none⟩,
 ⟨77,(.raw .fn),0,[],8,false,none⟩,
 ⟨78,(.raw .fn),0,[],8,false,none⟩,
 ⟨79,(.raw .fn),0,[],8,false,none⟩,
 ⟨80,(.raw .fn),0,[],8,false,none⟩,
 ⟨81,(.raw .fn),0,[],8,false,none⟩,
 ⟨82,(.raw .fn),0,[],8,false,none⟩,
 ⟨83,(.raw .fn),0,[],8,false,none⟩,
 ⟨84,(.prod (.prod (.int .i64) (.prod (.int .i64) .unit)) (.prod (.slice (.prod (.int .i64) (.prod (.int .i64) (.prod (.int .i64) (.prod (.int .i64) .unit))))) .unit)),0,[(0,(.prod (.int .i64) (.prod (.int .i64) .unit))),(2,(.slice (.prod (.int .i64) (.prod (.int .i64) (.prod (.int .i64) (.prod (.int .i64) .unit))))))],40,false,none⟩,
 ⟨85,(.prod (.prod (.int .i64) (.prod (.int .i64) .unit)) (.prod (.slice (.prod (.int .i64) (.prod (.int .i64) (.prod (.int .i64) (.prod (.int .i64) .unit))))) .unit)),0,[(0,(.prod (.int .i64) (.prod (.int .i64) .unit))),(2,(.slice (.prod (.int .i64) (.prod (.int .i64) (.prod (.int .i64) (.prod (.int .i64) .unit))))))],40,false,none⟩,
 ⟨86,(.raw .fn),0,[],8,false,none⟩,
 ⟨87,(.raw .fn),0,[],8,false,none⟩,
 ⟨88,(.slice (.prod (.int .i64) (.prod (.int .i64) .unit))),91,[],16,false,none⟩,
 ⟨89,(.raw .fn),0,[],8,false,none⟩,
 ⟨90,(.prod (.int .i64) (.prod (.int .i64) .unit)),0,[(0,(.int .i64)),(1,(.int .i64))],16,true,none⟩,
 ⟨91,(.prod (.int .i64) (.prod (.int .i64) .unit)),0,[(0,(.int .i64)),(1,(.int .i64))],16,true,none⟩,
 ⟨92,(.raw .fn),0,[],8,false,none⟩,
 ⟨93,(.raw .fn),0,[],8,false,none⟩,
 ⟨94,(.raw .fn),0,[],8,false,none⟩,
 ⟨96,(.raw .fn),0,[],8,false,none⟩,
 ⟨97,(.raw .fn),0,[],8,false,none⟩,
 ⟨98,(.raw .fn),0,[],8,false,none⟩,
 ⟨100,(.raw .fn),0,[],8,false,none⟩,
 ⟨101,(.raw .fn),0,[],8,false,none⟩,
 ⟨102,(.raw .fn),0,[],8,false,none⟩,
 ⟨103,(.raw .fn),0,[],8,false,none⟩,
 ⟨104,(.raw .fn),0,[],8,false,none⟩,
 ⟨105,(.raw .fn),0,[],8,false,none⟩,
 ⟨106,(.raw .fn),0,[],8,false,none⟩,
 ⟨107,(.raw .fn),0,[],8,false,none⟩,
 ⟨108,(.raw .fn),0,[],8,false,none⟩,
 ⟨109,(.raw .fn),0,[],8,false,none⟩,
 ⟨110,(.raw .fn),0,[],8,false,none⟩,
 ⟨111,(.raw .fn),0,[],8,false,none⟩,
 ⟨112,(.raw .fn),0,[],8,false,none⟩,
 ⟨113,(.raw .fn),0,[],8,false,none⟩,
 ⟨114,(.prod (.raw .fn) (.prod (.raw .fn) (.prod (.raw .fn) (.prod (.raw .fn) .unit)))),113,[(0,(.raw .fn)),(1,(.raw .fn)),(2,(.raw .fn)),(3,(.raw .fn))],32,false,some (4,(.raw .fn))⟩,
 ⟨115,(.raw .fn),0,[],8,false,none⟩,
 ⟨116,(.raw .fn),0,[],8,false,none⟩,
 ⟨117,(.raw .fn),0,[],8,false,none⟩,
 ⟨119,(.raw .fn),0,[],8,false,none⟩,
 ⟨121,(.raw .fn),0,[],8,false,none⟩,
 ⟨122,(.raw .fn),0,[],8,false,none⟩,
 ⟨123,(.prod (.int .i64) (.prod (.int .u64) .unit)),0,[(0,(.int .i64)),(1,(.int .u64))],16,true,none⟩,
 ⟨124,(.prod (.int .i64) (.prod (.int .u64) .unit)),0,[(0,(.int .i64)),(1,(.int .u64))],16,true,none⟩,
 ⟨125,(.slice (.prod (.int .i64) (.prod (.int .u64) .unit))),124,[],16,false,none⟩,
 ⟨127,(.raw .fn),0,[],8,false,none⟩,
 ⟨128,(.raw .fn),0,[],8,false,none⟩,
 ⟨130,(.raw .fn),0,[],8,false,none⟩,
 ⟨131,(.prod (.int .i64) (.prod (.int .i64) (.prod (.int .i64) (.prod (.int .i64) (.prod (.int .i64) (.prod (.int .i64) .unit)))))),0,[(0,(.int .i64)),(1,(.int .i64)),(2,(.int .i64)),(3,(.int .i64)),(4,(.int .i64)),(5,(.int .i64))],48,true,none⟩,
 ⟨132,(.prod (.int .i64) (.prod (.int .i64) (.prod (.int .i64) (.prod (.int .i64) (.prod (.int .i64) (.prod (.int .i64) .unit)))))),0,[(0,(.int .i64)),(1,(.int .i64)),(2,(.int .i64)),(3,(.int .i64)),(4,(.int .i64)),(5,(.int .i64))],48,true,none⟩,
 ⟨134,(.raw .fn),0,[],8,false,none⟩,
 ⟨135,(.raw .fn),0,[],8,false,none⟩,
 ⟨136,(.raw .fn),0,[],8,false,none⟩,
 ⟨137,(.raw .fn),0,[],8,false,none⟩,
 ⟨138,(.raw .fn),0,[],8,false,none⟩,
 ⟨139,(.raw .fn),0,[],8,false,none⟩,
 ⟨141,(.raw .fn),0,[],8,false,none⟩,
 ⟨142,(.raw .fn),0,[],8,false,none⟩,
 ⟨143,(.raw .fn),0,[],8,false,none⟩,
 ⟨144,(.prod (.prod (.prod (.int .i64) (.prod (.int .i64) .unit)) (.prod (.slice (.int .u64)) (.prod (.slice (.prod (.int .i64) (.prod (.int .i64) (.prod (.int .i64) (.prod (.int .i64) .unit))))) (.prod (.int .i64) (.prod (.int .i64) .unit))))) (.prod (.slice (.int .u64)) (.prod (.slice (.int .i64)) (.prod (.slice (.int .u64)) (.prod (.int .i64) (.prod (.prod (.int .i64) (.prod (.int .i64) (.prod (.int .i64) (.prod (.int .i64) (.prod (.int .i64) (.prod (.int .i64) .unit)))))) .unit)))))),0,[(0,(.prod (.prod (.int .i64) (.prod (.int .i64) .unit)) (.prod (.slice (.int .u64)) (.prod (.slice (.prod (.int .i64) (.prod (.int .i64) (.prod (.int .i64) (.prod (.int .i64) .unit))))) (.prod (.int .i64) (.prod (.int .i64) .unit)))))),(6,(.slice (.int .u64))),(7,(.slice (.int .i64))),(8,(.slice (.int .u64))),(9,(.int .i64)),(10,(.prod (.int .i64) (.prod (.int .i64) (.prod (.int .i64) (.prod (.int .i64) (.prod (.int .i64) (.prod (.int .i64) .unit)))))))],208,false,none⟩,
 ⟨145,(.prod (.prod (.prod (.int .i64) (.prod (.int .i64) .unit)) (.prod (.slice (.int .u64)) (.prod (.slice (.prod (.int .i64) (.prod (.int .i64) (.prod (.int .i64) (.prod (.int .i64) .unit))))) (.prod (.int .i64) (.prod (.int .i64) .unit))))) (.prod (.slice (.int .u64)) (.prod (.slice (.int .i64)) (.prod (.slice (.int .u64)) (.prod (.int .i64) (.prod (.prod (.int .i64) (.prod (.int .i64) (.prod (.int .i64) (.prod (.int .i64) (.prod (.int .i64) (.prod (.int .i64) .unit)))))) .unit)))))),0,[(0,(.prod (.prod (.int .i64) (.prod (.int .i64) .unit)) (.prod (.slice (.int .u64)) (.prod (.slice (.prod (.int .i64) (.prod (.int .i64) (.prod (.int .i64) (.prod (.int .i64) .unit))))) (.prod (.int .i64) (.prod (.int .i64) .unit)))))),(6,(.slice (.int .u64))),(7,(.slice (.int .i64))),(8,(.slice (.int .u64))),(9,(.int .i64)),(10,(.prod (.int .i64) (.prod (.int .i64) (.prod (.int .i64) (.prod (.int .i64) (.prod (.int .i64) (.prod (.int .i64) .unit)))))))],208,false,none⟩,
 ⟨147,(.raw .fn),0,[],8,false,none⟩,
 ⟨149,(.raw .fn),0,[],8,false,none⟩,
 ⟨150,(.raw .fn),0,[],8,false,none⟩,
 ⟨151,(.raw .fn),0,[],8,false,none⟩,
 ⟨152,(.raw .fn),0,[],8,false,none⟩,
 ⟨153,(.raw .fn),0,[],8,false,none⟩,
 ⟨154,(.raw .fn),0,[],8,false,none⟩,
 ⟨156,(.raw .fn),0,[],8,false,none⟩,
 ⟨158,(.raw .fn),0,[],8,false,none⟩,
 ⟨160,(.raw .fn),0,[],8,false,none⟩,
 ⟨161,(.raw .fn),0,[],8,false,none⟩,
 ⟨162,(.raw .fn),0,[],8,false,none⟩,
 ⟨163,(.raw .fn),0,[],8,false,none⟩,
 ⟨164,(.prod (.int .i64) (.prod (.int .i64) (.prod (.int .u64) .unit))),0,[(0,(.int .i64)),(1,(.int .i64)),(2,(.int .u64))],24,true,none⟩,
 ⟨165,(.prod (.int .i64) (.prod (.int .i64) (.prod (.int .u64) .unit))),0,[(0,(.int .i64)),(1,(.int .i64)),(2,(.int .u64))],24,true,none⟩,
 ⟨166,(.raw .fn),0,[],8,false,none⟩,
 ⟨167,(.raw .fn),0,[],8,false,none⟩,
 ⟨169,(.raw .fn),0,[],8,false,none⟩,
 ⟨170,(.raw .fn),0,[],8,false,none⟩,
 ⟨171,(.raw .fn),0,[],8,false,none⟩,
 ⟨172,(.raw .fn),0,[],8,false,none⟩,
 ⟨173,(.raw .fn),0,[],8,false,none⟩,
 ⟨174,(.raw .fn),0,[],8,false,none⟩,
 ⟨175,(.raw .fn),0,[],8,false,none⟩,
 ⟨176,(.slice .bool),4,[],1,false,none⟩,
 ⟨177,(.raw .fn),0,[],8,false,none⟩,
 ⟨178,(.raw .fn),0,[],8,false,none⟩,
 ⟨179,(.raw .fn),0,[],8,false,none⟩,
 ⟨185,(.raw .fn),0,[],8,false,none⟩,
 ⟨186,(.int .u8),0,[],1,true,none⟩,
 ⟨187,(.int .u8),0,[],1,true,none⟩,
 ⟨188,(.raw .fn),0,[],8,false,none⟩,
 ⟨190,(.int .i32),0,[],4,true,none⟩,
 ⟨191,(.int .i32),0,[],4,true,none⟩,
 ⟨192,(.prod (.int .u64) (.prod (.int .u64) (.prod (.int .u32) (.prod (.int .u8) (.prod (.int .u8) (.prod (.int .u8) (.prod (.int .u8) (.prod (.raw .fn) (.prod (.raw .ptr) (.prod (.int .i32) (.prod (.int .i32) .unit))))))))))),0,[(0,(.int .u64)),(1,(.int .u64)),(2,(.int .u32)),(3,(.int .u8)),(4,(.int .u8)),(5,(.int .u8)),(6,(.int .u8)),(7,(.raw .fn)),(8,(.raw .ptr)),(9,(.int .i32)),(10,(.int .i32))],48,false,none⟩,
 ⟨193,(.prod (.int .u64) (.prod (.int .u64) (.prod (.int .u32) (.prod (.int .u8) (.prod (.int .u8) (.prod (.int .u8) (.prod (.int .u8) (.prod (.raw .fn) (.prod (.raw .ptr) (.prod (.int .i32) (.prod (.int .i32) .unit))))))))))),0,[(0,(.int .u64)),(1,(.int .u64)),(2,(.int .u32)),(3,(.int .u8)),(4,(.int .u8)),(5,(.int .u8)),(6,(.int .u8)),(7,(.raw .fn)),(8,(.raw .ptr)),(9,(.int .i32)),(10,(.int .i32))],48,false,none⟩]
end Go.VI
namespace Go.VI
open Go Go.Proofs
theorem mix_ok:Tryz.prog.follows .mixedOrders=true:=by kernel_rfl
theorem te_ok:TEok Tryz.prog te:=.of (by kernel_rfl)
abbrev Snd (E:Entry):Prop:=Enters Tryz.prog E.f/\E.Sound Tryz.prog
theorem sc {E:Entry} {tbl:Tbl} (h:Snd E) (h3:Tbl.Sound Tryz.prog tbl):Tbl.Sound Tryz.prog (E.ent :: tbl):=Tbl.sound_cons h.1 h.2 h3
theorem sn:Tbl.Sound Tryz.prog []:=Tbl.sound_nil
noncomputable abbrev FT (tbl:Tbl) (ann:Ann) (k:Nat) (fn:Func) (sh:List AP) (ps:List PTy) (rs:List RTy) (d:Pden ps):Option (Rden rs × Oden ps):=(funT te tbl ann k (bodyOf fn) fn.results.toList sh ps rs d).ev
@[reducible] def Y0:Ty:=.prod (.int .i64) .unit
@[reducible] def Y1:Ty:=.prod (.int .i64) Y0
@[reducible] def Y2:Ty:=.slice (.int .u64)
@[reducible] def Y3:Ty:=.prod (.int .i64) Y1
@[reducible] def Y4:Ty:=.prod (.int .i64) Y3
@[reducible] def Y5:Ty:=.slice Y4
@[reducible] def Y6:Ty:=.prod Y5 Y1
@[reducible] def Y7:Ty:=.prod Y2 Y6
@[reducible] def Y8:Ty:=.prod Y1 Y7
@[reducible] def Y9:Ty:=.slice (.int .i64)
@[reducible] def Y10:Ty:=.prod Y9 Y0
@[reducible] def Y11:Ty:=.prod Y2 .unit
@[reducible] def Y12:Ty:=.prod Y2 Y11
@[reducible] def Y13:Ty:=.prod Y8 Y12
@[reducible] def Y14:Ty:=.prod (.int .u32) .unit
@[reducible] def Y15:Ty:=.prod (.int .i64) Y14
@[reducible] def Y16:Ty:=.prod (.int .i64) Y15
@[reducible] def Y17:Ty:=.slice Y1
@[reducible] def Y18:Ty:=.slice .bool
@[reducible] def Y19:Ty:=.prod (.int .u64) .unit
@[reducible] def Y20:Ty:=.prod (.int .i64) Y19
@[reducible] def Y21:Ty:=.prod (.int .i64) Y20
@[reducible] def Y22:Ty:=.prod (.int .i64) Y4
@[reducible] def Y23:Ty:=.prod (.int .i64) Y22
@[reducible] def Y24:Ty:=.prod Y23 .unit
@[reducible] def Y25:Ty:=.prod (.int .i64) Y24
@[reducible] def Y26:Ty:=.prod Y2 Y25
@[reducible] def Y27:Ty:=.prod Y9 Y26
@[reducible] def Y28:Ty:=.prod Y2 Y27
@[reducible] def Y29:Ty:=.prod Y8 Y28
@[reducible] def Y30:Ty:=.prod Y5 .unit
@[reducible] def Y31:Ty:=.prod Y1 Y30
noncomputable def F_made_Light (d:Pden [.val Y8]):Option (Rden [⟨.bool,[none],none⟩] × Oden [.val Y8]):=FT [] [] 13 Tryz.f9 [.p] [.val Y8] [⟨.bool,[none],none⟩] d
noncomputable def E_made_Light:Entry:=⟨9,[.p],[.val Y8],[⟨.bool,[none],none⟩],F_made_Light⟩
theorem S_made_Light:Snd E_made_Light:=ent_ok te_ok mix_ok sn (fn:=Tryz.f9) (by kernel_rfl) (by kernel_rfl) (F:=F_made_Light) rfl
noncomputable def F_made_Tape_Next (d:Pden [.ptr 36 Y10,.val (.int .i64)]):Option (Rden [⟨(.int .i64),[none],none⟩] × Oden [.ptr 36 Y10,.val (.int .i64)]):=FT [] [] 48 Tryz.f44 [.p,.p] [.ptr 36 Y10,.val (.int .i64)] [⟨(.int .i64),[none],none⟩] d
noncomputable def E_made_Tape_Next:Entry:=⟨44,[.p,.p],[.ptr 36 Y10,.val (.int .i64)],[⟨(.int .i64),[none],none⟩],F_made_Tape_Next⟩
theorem S_made_Tape_Next:Snd E_made_Tape_Next:=ent_ok te_ok mix_ok sn (fn:=Tryz.f44) (by kernel_rfl) (by kernel_rfl) (F:=F_made_Tape_Next) rfl
noncomputable def F_made_Tape_Conf (d:Pden [.ptr 36 Y10]):Option (Rden [⟨Y1,[none,none],none⟩] × Oden [.ptr 36 Y10]):=FT [E_made_Tape_Next.ent] [] 14 Tryz.f81 [.p] [.ptr 36 Y10] [⟨Y1,[none,none],none⟩] d
noncomputable def E_made_Tape_Conf:Entry:=⟨81,[.p],[.ptr 36 Y10],[⟨Y1,[none,none],none⟩],F_made_Tape_Conf⟩
theorem S_made_Tape_Conf:Snd E_made_Tape_Conf:=ent_ok te_ok mix_ok (sc S_made_Tape_Next sn) (fn:=Tryz.f81) (by kernel_rfl) (by kernel_rfl) (F:=F_made_Tape_Conf) rfl
noncomputable def F_r04_ValidConf (d:Pden [.val Y1]):Option (Rden [⟨.bool,[none],none⟩] × Oden [.val Y1]):=FT [] [] 27 Tryz.f54 [.p] [.val Y1] [⟨.bool,[none],none⟩] d
noncomputable def E_r04_ValidConf:Entry:=⟨54,[.p],[.val Y1],[⟨.bool,[none],none⟩],F_r04_ValidConf⟩
theorem S_r04_ValidConf:Snd E_r04_ValidConf:=ent_ok te_ok mix_ok sn (fn:=Tryz.f54) (by kernel_rfl) (by kernel_rfl) (F:=F_r04_ValidConf) rfl
noncomputable def F_r04_New (d:Pden [.val Y1]):Option (Rden [⟨Y8,[none,none,some 48,some 76,none,none],none⟩,⟨(.int .i64),[none],none⟩] × Oden [.val Y1]):=FT [E_r04_ValidConf.ent] [] 19 Tryz.f73 [.p] [.val Y1] [⟨Y8,[none,none,some 48,some 76,none,none],none⟩,⟨(.int .i64),[none],none⟩] d
noncomputable def E_r04_New:Entry:=⟨73,[.p],[.val Y1],[⟨Y8,[none,none,some 48,some 76,none,none],none⟩,⟨(.int .i64),[none],none⟩],F_r04_New⟩
theorem S_r04_New:Snd E_r04_New:=ent_ok te_ok mix_ok (sc S_r04_ValidConf sn) (fn:=Tryz.f73) (by kernel_rfl) (by kernel_rfl) (F:=F_r04_New) rfl
noncomputable def F_made_Tape_Empty (d:Pden [.ptr 36 Y10]):Option (Rden [⟨Y13,[none,none,some 48,some 76,none,none,none,none],none⟩] × Oden [.ptr 36 Y10]):=FT [E_made_Tape_Conf.ent,E_r04_New.ent] [] 13 Tryz.f41 [.p] [.ptr 36 Y10] [⟨Y13,[none,none,some 48,some 76,none,none,none,none],none⟩] d
noncomputable def E_made_Tape_Empty:Entry:=⟨41,[.p],[.ptr 36 Y10],[⟨Y13,[none,none,some 48,some 76,none,none,none,none],none⟩],F_made_Tape_Empty⟩
theorem S_made_Tape_Empty:Snd E_made_Tape_Empty:=ent_ok te_ok mix_ok (sc S_made_Tape_Conf (sc S_r04_New sn)) (fn:=Tryz.f41) (by kernel_rfl) (by kernel_rfl) (F:=F_made_Tape_Empty) rfl
noncomputable def F_made_Tape_Done (d:Pden [.ptr 36 Y10]):Option (Rden [⟨.bool,[none],none⟩] × Oden [.ptr 36 Y10]):=FT [] [] 13 Tryz.f42 [.p] [.ptr 36 Y10] [⟨.bool,[none],none⟩] d
noncomputable def E_made_Tape_Done:Entry:=⟨42,[.p],[.ptr 36 Y10],[⟨.bool,[none],none⟩],F_made_Tape_Done⟩
theorem S_made_Tape_Done:Snd E_made_Tape_Done:=ent_ok te_ok mix_ok sn (fn:=Tryz.f42) (by kernel_rfl) (by kernel_rfl) (F:=F_made_Tape_Done) rfl
noncomputable def F_r04_SmallWords (d:Pden [.val Y1]):Option (Rden [⟨(.int .i64),[none],none⟩] × Oden [.val Y1]):=FT [E_r04_ValidConf.ent] [] 9 Tryz.f60 [.p] [.val Y1] [⟨(.int .i64),[none],none⟩] d
noncomputable def E_r04_SmallWords:Entry:=⟨60,[.p],[.val Y1],[⟨(.int .i64),[none],none⟩],F_r04_SmallWords⟩
theorem S_r04_SmallWords:Snd E_r04_SmallWords:=ent_ok te_ok mix_ok (sc S_r04_ValidConf sn) (fn:=Tryz.f60) (by kernel_rfl) (by kernel_rfl) (F:=F_r04_SmallWords) rfl
noncomputable def F_made_Tape_Header (d:Pden [.ptr 36 Y10,.val Y1]):Option (Rden [⟨Y16,[none,none,none],none⟩] × Oden [.ptr 36 Y10,.val Y1]):=FT [E_r04_SmallWords.ent,E_made_Tape_Next.ent] [] 42 Tryz.f83 [.p,.p] [.ptr 36 Y10,.val Y1] [⟨Y16,[none,none,none],none⟩] d
noncomputable def E_made_Tape_Header:Entry:=⟨83,[.p,.p],[.ptr 36 Y10,.val Y1],[⟨Y16,[none,none,none],none⟩],F_made_Tape_Header⟩
theorem S_made_Tape_Header:Snd E_made_Tape_Header:=ent_ok te_ok mix_ok (sc S_r04_SmallWords (sc S_made_Tape_Next sn)) (fn:=Tryz.f83) (by kernel_rfl) (by kernel_rfl) (F:=F_made_Tape_Header) rfl
noncomputable def F_r04_pins (d:Pden [.val (.int .i64)]):Option (Rden [⟨.bool,[none],none⟩] × Oden [.val (.int .i64)]):=FT [] [] 9 Tryz.f55 [.p] [.val (.int .i64)] [⟨.bool,[none],none⟩] d
noncomputable def E_r04_pins:Entry:=⟨55,[.p],[.val (.int .i64)],[⟨.bool,[none],none⟩],F_r04_pins⟩
theorem S_r04_pins:Snd E_r04_pins:=ent_ok te_ok mix_ok sn (fn:=Tryz.f55) (by kernel_rfl) (by kernel_rfl) (F:=F_r04_pins) rfl
noncomputable def F_r04_Need (d:Pden [.val Y1,.val (.int .i64)]):Option (Rden [⟨(.int .i64),[none],none⟩] × Oden [.val Y1,.val (.int .i64)]):=FT [E_r04_ValidConf.ent,E_r04_SmallWords.ent] [⟨0,[],⟨[4,5],[.val (.int .i64),.val (.int .i64)],[],[],[]⟩,[(.ret,⟨[4],[.val (.int .i64)],[],[],[]⟩),(.exit 0,⟨[4],[.val (.int .i64)],[],[],[]⟩)]⟩] 28 Tryz.f17 [.p,.p] [.val Y1,.val (.int .i64)] [⟨(.int .i64),[none],none⟩] d
noncomputable def E_r04_Need:Entry:=⟨17,[.p,.p],[.val Y1,.val (.int .i64)],[⟨(.int .i64),[none],none⟩],F_r04_Need⟩
theorem S_r04_Need:Snd E_r04_Need:=ent_ok te_ok mix_ok (sc S_r04_ValidConf (sc S_r04_SmallWords sn)) (fn:=Tryz.f17) (by kernel_rfl) (by kernel_rfl) (F:=F_r04_Need) rfl
noncomputable def F_r04_tails (d:Pden [.val Y5,.val (.int .i64),.val (.int .i64)]):Option (Rden [⟨(.int .i64),[none],none⟩] × Oden [.val Y5,.val (.int .i64),.val (.int .i64)]):=FT [] [⟨0,[],⟨[7,8],[.val (.int .i64),.val (.int .i64)],[],[],[]⟩,[(.exit 0,⟨[7],[.val (.int .i64)],[],[],[]⟩)]⟩] 37 Tryz.f56 [.p,.p,.p] [.val Y5,.val (.int .i64),.val (.int .i64)] [⟨(.int .i64),[none],none⟩] d
noncomputable def E_r04_tails:Entry:=⟨56,[.p,.p,.p],[.val Y5,.val (.int .i64),.val (.int .i64)],[⟨(.int .i64),[none],none⟩],F_r04_tails⟩
theorem S_r04_tails:Snd E_r04_tails:=ent_ok te_ok mix_ok sn (fn:=Tryz.f56) (by kernel_rfl) (by kernel_rfl) (F:=F_r04_tails) rfl
noncomputable def F_r04_Proper (d:Pden [.val Y8]):Option (Rden [⟨.bool,[none],none⟩] × Oden [.val Y8]):=FT [E_r04_ValidConf.ent,E_r04_pins.ent,E_r04_Need.ent,E_r04_tails.ent] [⟨0,[],⟨[2,3,4],[.val .bool,.val (.int .i64),.val (.int .i64)],[],[],[]⟩,[(.ret,⟨[2],[.val .bool],[],[],[]⟩),(.exit 0,⟨[2],[.val .bool],[],[],[]⟩)]⟩] 157 Tryz.f14 [.p] [.val Y8] [⟨.bool,[none],none⟩] d
noncomputable def E_r04_Proper:Entry:=⟨14,[.p],[.val Y8],[⟨.bool,[none],none⟩],F_r04_Proper⟩
theorem S_r04_Proper:Snd E_r04_Proper:=ent_ok te_ok mix_ok (sc S_r04_ValidConf (sc S_r04_pins (sc S_r04_Need (sc S_r04_tails sn)))) (fn:=Tryz.f14) (by kernel_rfl) (by kernel_rfl) (F:=F_r04_Proper) rfl
noncomputable def F_r03_Valid (d:Pden [.val Y16]):Option (Rden [⟨.bool,[none],none⟩] × Oden [.val Y16]):=FT [] [] 40 Tryz.f101 [.p] [.val Y16] [⟨.bool,[none],none⟩] d
noncomputable def E_r03_Valid:Entry:=⟨101,[.p],[.val Y16],[⟨.bool,[none],none⟩],F_r03_Valid⟩
theorem S_r03_Valid:Snd E_r03_Valid:=ent_ok te_ok mix_ok sn (fn:=Tryz.f101) (by kernel_rfl) (by kernel_rfl) (F:=F_r03_Valid) rfl
noncomputable def F_r03_Size (d:Pden [.val Y16]):Option (Rden [⟨(.int .i64),[none],none⟩] × Oden [.val Y16]):=FT [E_r03_Valid.ent] [] 9 Tryz.f72 [.p] [.val Y16] [⟨(.int .i64),[none],none⟩] d
noncomputable def E_r03_Size:Entry:=⟨72,[.p],[.val Y16],[⟨(.int .i64),[none],none⟩],F_r03_Size⟩
theorem S_r03_Size:Snd E_r03_Size:=ent_ok te_ok mix_ok (sc S_r03_Valid sn) (fn:=Tryz.f72) (by kernel_rfl) (by kernel_rfl) (F:=F_r03_Size) rfl
noncomputable def F_r07_Asks (d:Pden [.val Y1,.val Y16]):Option (Rden [⟨.bool,[none],none⟩] × Oden [.val Y1,.val Y16]):=FT [E_r03_Valid.ent,E_r03_Size.ent,E_r04_Need.ent] [] 19 Tryz.f119 [.p,.p] [.val Y1,.val Y16] [⟨.bool,[none],none⟩] d
noncomputable def E_r07_Asks:Entry:=⟨119,[.p,.p],[.val Y1,.val Y16],[⟨.bool,[none],none⟩],F_r07_Asks⟩
theorem S_r07_Asks:Snd E_r07_Asks:=ent_ok te_ok mix_ok (sc S_r03_Valid (sc S_r03_Size (sc S_r04_Need sn))) (fn:=Tryz.f119) (by kernel_rfl) (by kernel_rfl) (F:=F_r07_Asks) rfl
noncomputable def F_r04_Limit (d:Pden [.val Y1]):Option (Rden [⟨(.int .i64),[none],none⟩] × Oden [.val Y1]):=FT [E_r04_ValidConf.ent] [] 9 Tryz.f129 [.p] [.val Y1] [⟨(.int .i64),[none],none⟩] d
noncomputable def E_r04_Limit:Entry:=⟨129,[.p],[.val Y1],[⟨(.int .i64),[none],none⟩],F_r04_Limit⟩
theorem S_r04_Limit:Snd E_r04_Limit:=ent_ok te_ok mix_ok (sc S_r04_ValidConf sn) (fn:=Tryz.f129) (by kernel_rfl) (by kernel_rfl) (F:=F_r04_Limit) rfl
noncomputable def F_r04_InUse (d:Pden [.val Y5]):Option (Rden [⟨(.int .i64),[none],none⟩] × Oden [.val Y5]):=FT [] [⟨0,[],⟨[3,4],[.val (.int .i64),.val (.int .i64)],[],[],[]⟩,[(.exit 0,⟨[3],[.val (.int .i64)],[],[],[]⟩)]⟩] 20 Tryz.f130 [.p] [.val Y5] [⟨(.int .i64),[none],none⟩] d
noncomputable def E_r04_InUse:Entry:=⟨130,[.p],[.val Y5],[⟨(.int .i64),[none],none⟩],F_r04_InUse⟩
theorem S_r04_InUse:Snd E_r04_InUse:=ent_ok te_ok mix_ok sn (fn:=Tryz.f130) (by kernel_rfl) (by kernel_rfl) (F:=F_r04_InUse) rfl
noncomputable def F_r04_Runs (d:Pden [.val Y5]):Option (Rden [⟨Y17,[some 91],none⟩] × Oden [.val Y5]):=FT [] [⟨0,[],⟨[3,4],[.own 0,.val (.int .i64)],[.arr 91 Y1],[],[]⟩,[(.exit 0,⟨[3],[.own 0],[.arr 91 Y1],[],[]⟩)]⟩] 54 Tryz.f142 [.p] [.val Y5] [⟨Y17,[some 91],none⟩] d
noncomputable def E_r04_Runs:Entry:=⟨142,[.p],[.val Y5],[⟨Y17,[some 91],none⟩],F_r04_Runs⟩
theorem S_r04_Runs:Snd E_r04_Runs:=ent_ok te_ok mix_ok sn (fn:=Tryz.f142) (by kernel_rfl) (by kernel_rfl) (F:=F_r04_Runs) rfl
noncomputable def F_r04_First (d:Pden [.val Y5,.val (.int .i64)]):Option (Rden [⟨(.int .i64),[none],none⟩] × Oden [.val Y5,.val (.int .i64)]):=FT [E_r04_Runs.ent] [⟨0,[],⟨[4,6],[.val (.int .i64),.val (.int .i64)],[],[],[]⟩,[(.ret,⟨[4],[.val (.int .i64)],[],[],[]⟩),(.exit 0,⟨[4],[.val (.int .i64)],[],[],[]⟩)]⟩] 31 Tryz.f131 [.p,.p] [.val Y5,.val (.int .i64)] [⟨(.int .i64),[none],none⟩] d
noncomputable def E_r04_First:Entry:=⟨131,[.p,.p],[.val Y5,.val (.int .i64)],[⟨(.int .i64),[none],none⟩],F_r04_First⟩
theorem S_r04_First:Snd E_r04_First:=ent_ok te_ok mix_ok (sc S_r04_Runs sn) (fn:=Tryz.f131) (by kernel_rfl) (by kernel_rfl) (F:=F_r04_First) rfl
noncomputable def F_r04_take_o (d:Pden [.val Y5,.val (.int .i64),.val (.int .i64),.val Y4,.val Y4]):Option (Rden [⟨Y5,[some 76],none⟩,⟨(.int .i64),[none],none⟩] × Oden [.val Y5,.val (.int .i64),.val (.int .i64),.val Y4,.val Y4]):=FT [] [⟨0,[],⟨[10,11,13],[.val Y5,.val (.int .i64),.val (.int .i64)],[],[1541],[.arr 76 Y4]⟩,[(.ret,⟨[10,11],[.val Y5,.val (.int .i64)],[],[1541],[.arr 76 Y4]⟩),(.exit 0,⟨[10,11],[.val Y5,.val (.int .i64)],[],[1541],[.arr 76 Y4]⟩)]⟩] 57 Tryz.f143 [.p,.p,.p,.p,.p] [.val Y5,.val (.int .i64),.val (.int .i64),.val Y4,.val Y4] [⟨Y5,[some 76],none⟩,⟨(.int .i64),[none],none⟩] d
noncomputable def E_r04_take_o:Entry:=⟨143,[.p,.p,.p,.p,.p],[.val Y5,.val (.int .i64),.val (.int .i64),.val Y4,.val Y4],[⟨Y5,[some 76],none⟩,⟨(.int .i64),[none],none⟩],F_r04_take_o⟩
theorem S_r04_take_o:Snd E_r04_take_o:=ent_ok te_ok mix_ok sn (fn:=Tryz.f143) (by kernel_rfl) (by kernel_rfl) (F:=F_r04_take_o) rfl
noncomputable def F_r04_Small_o (d:Pden [.val Y5,.val (.int .i64),.val (.int .i64)]):Option (Rden [⟨Y5,[some 76],none⟩,⟨(.int .i64),[none],none⟩] × Oden [.val Y5,.val (.int .i64),.val (.int .i64)]):=FT [E_r04_take_o.ent] [] 22 Tryz.f132 [.p,.p,.p] [.val Y5,.val (.int .i64),.val (.int .i64)] [⟨Y5,[some 76],none⟩,⟨(.int .i64),[none],none⟩] d
noncomputable def E_r04_Small_o:Entry:=⟨132,[.p,.p,.p],[.val Y5,.val (.int .i64),.val (.int .i64)],[⟨Y5,[some 76],none⟩,⟨(.int .i64),[none],none⟩],F_r04_Small_o⟩
theorem S_r04_Small_o:Snd E_r04_Small_o:=ent_ok te_ok mix_ok (sc S_r04_take_o sn) (fn:=Tryz.f132) (by kernel_rfl) (by kernel_rfl) (F:=F_r04_Small_o) rfl
noncomputable def F_r07_small (d:Pden [.val Y8,.val (.int .i64)]):Option (Rden [⟨Y8,[none,none,none,some 76,none,none],none⟩,⟨(.int .u64),[none],none⟩,⟨.bool,[none],none⟩] × Oden [.val Y8,.val (.int .i64)]):=FT [E_r04_Limit.ent,E_r04_InUse.ent,E_r04_First.ent,E_r04_Small_o.ent] [] 108 Tryz.f120 [.p,.p] [.val Y8,.val (.int .i64)] [⟨Y8,[none,none,none,some 76,none,none],none⟩,⟨(.int .u64),[none],none⟩,⟨.bool,[none],none⟩] d
noncomputable def E_r07_small:Entry:=⟨120,[.p,.p],[.val Y8,.val (.int .i64)],[⟨Y8,[none,none,none,some 76,none,none],none⟩,⟨(.int .u64),[none],none⟩,⟨.bool,[none],none⟩],F_r07_small⟩
theorem S_r07_small:Snd E_r07_small:=ent_ok te_ok mix_ok (sc S_r04_Limit (sc S_r04_InUse (sc S_r04_First (sc S_r04_Small_o sn)))) (fn:=Tryz.f120) (by kernel_rfl) (by kernel_rfl) (F:=F_r07_small) rfl
noncomputable def F_r04_take (d:Pden [.val Y5,.val (.int .i64),.val (.int .i64),.val Y4,.val Y4]):Option (Rden [⟨Y5,[none],none⟩,⟨(.int .i64),[none],none⟩] × Oden [.val Y5,.val (.int .i64),.val (.int .i64),.val Y4,.val Y4]):=FT [] [⟨0,[],⟨[10,11,13],[.val Y5,.val (.int .i64),.val (.int .i64)],[],[1541],[.arr 76 Y4]⟩,[(.ret,⟨[10,11],[.val Y5,.val (.int .i64)],[],[1541],[.arr 76 Y4]⟩),(.exit 0,⟨[10,11],[.val Y5,.val (.int .i64)],[],[1541],[.arr 76 Y4]⟩)]⟩] 57 Tryz.f143 [.p,.p,.p,.p,.p] [.val Y5,.val (.int .i64),.val (.int .i64),.val Y4,.val Y4] [⟨Y5,[none],none⟩,⟨(.int .i64),[none],none⟩] d
noncomputable def E_r04_take:Entry:=⟨143,[.p,.p,.p,.p,.p],[.val Y5,.val (.int .i64),.val (.int .i64),.val Y4,.val Y4],[⟨Y5,[none],none⟩,⟨(.int .i64),[none],none⟩],F_r04_take⟩
theorem S_r04_take:Snd E_r04_take:=ent_ok te_ok mix_ok sn (fn:=Tryz.f143) (by kernel_rfl) (by kernel_rfl) (F:=F_r04_take) rfl
noncomputable def F_r04_Large (d:Pden [.val Y1,.val Y5,.val (.int .i64),.val (.int .i64),.val (.int .i64)]):Option (Rden [⟨Y5,[none],none⟩,⟨(.int .i64),[none],none⟩] × Oden [.val Y1,.val Y5,.val (.int .i64),.val (.int .i64),.val (.int .i64)]):=FT [E_r04_Need.ent,E_r04_take.ent] [] 37 Tryz.f133 [.p,.p,.p,.p,.p] [.val Y1,.val Y5,.val (.int .i64),.val (.int .i64),.val (.int .i64)] [⟨Y5,[none],none⟩,⟨(.int .i64),[none],none⟩] d
noncomputable def E_r04_Large:Entry:=⟨133,[.p,.p,.p,.p,.p],[.val Y1,.val Y5,.val (.int .i64),.val (.int .i64),.val (.int .i64)],[⟨Y5,[none],none⟩,⟨(.int .i64),[none],none⟩],F_r04_Large⟩
theorem S_r04_Large:Snd E_r04_Large:=ent_ok te_ok mix_ok (sc S_r04_Need (sc S_r04_take sn)) (fn:=Tryz.f133) (by kernel_rfl) (by kernel_rfl) (F:=F_r04_Large) rfl
noncomputable def F_r07_large (d:Pden [.val Y8,.val (.int .i64),.val (.int .i64)]):Option (Rden [⟨Y8,[none,none,none,none,none,none],none⟩,⟨(.int .u64),[none],none⟩,⟨.bool,[none],none⟩] × Oden [.val Y8,.val (.int .i64),.val (.int .i64)]):=FT [E_r04_First.ent,E_r04_InUse.ent,E_r04_Limit.ent,E_r04_Large.ent] [] 49 Tryz.f121 [.p,.p,.p] [.val Y8,.val (.int .i64),.val (.int .i64)] [⟨Y8,[none,none,none,none,none,none],none⟩,⟨(.int .u64),[none],none⟩,⟨.bool,[none],none⟩] d
noncomputable def E_r07_large:Entry:=⟨121,[.p,.p,.p],[.val Y8,.val (.int .i64),.val (.int .i64)],[⟨Y8,[none,none,none,none,none,none],none⟩,⟨(.int .u64),[none],none⟩,⟨.bool,[none],none⟩],F_r07_large⟩
theorem S_r07_large:Snd E_r07_large:=ent_ok te_ok mix_ok (sc S_r04_First (sc S_r04_InUse (sc S_r04_Limit (sc S_r04_Large sn)))) (fn:=Tryz.f121) (by kernel_rfl) (by kernel_rfl) (F:=F_r07_large) rfl
noncomputable def F_r03_Encode (d:Pden [.val Y16]):Option (Rden [⟨(.int .u64),[none],none⟩,⟨(.int .i64),[none],none⟩] × Oden [.val Y16]):=FT [E_r03_Valid.ent] [] 22 Tryz.f79 [.p] [.val Y16] [⟨(.int .u64),[none],none⟩,⟨(.int .i64),[none],none⟩] d
noncomputable def E_r03_Encode:Entry:=⟨79,[.p],[.val Y16],[⟨(.int .u64),[none],none⟩,⟨(.int .i64),[none],none⟩],F_r03_Encode⟩
theorem S_r03_Encode:Snd E_r03_Encode:=ent_ok te_ok mix_ok (sc S_r03_Valid sn) (fn:=Tryz.f79) (by kernel_rfl) (by kernel_rfl) (F:=F_r03_Encode) rfl
noncomputable def F_r02_span (d:Pden [.val Y2,.val (.int .u64),.val (.int .i64)]):Option (Rden [⟨(.int .i64),[none],none⟩,⟨.bool,[none],none⟩] × Oden [.val Y2,.val (.int .u64),.val (.int .i64)]):=FT [] [] 29 Tryz.f102 [.p,.p,.p] [.val Y2,.val (.int .u64),.val (.int .i64)] [⟨(.int .i64),[none],none⟩,⟨.bool,[none],none⟩] d
noncomputable def E_r02_span:Entry:=⟨102,[.p,.p,.p],[.val Y2,.val (.int .u64),.val (.int .i64)],[⟨(.int .i64),[none],none⟩,⟨.bool,[none],none⟩],F_r02_span⟩
theorem S_r02_span:Snd E_r02_span:=ent_ok te_ok mix_ok sn (fn:=Tryz.f102) (by kernel_rfl) (by kernel_rfl) (F:=F_r02_span) rfl
noncomputable def F_r02_Write (d:Pden [.val Y2,.val (.int .u64),.val Y2]):Option (Rden [⟨Y2,[some 48],none⟩,⟨(.int .i64),[none],none⟩] × Oden [.val Y2,.val (.int .u64),.val Y2]):=FT [E_r02_span.ent] [⟨0,[],⟨[11],[.val (.int .i64)],[],[1155],[.arr 48 (.int .u64)]⟩,[(.exit 0,⟨[],[],[],[1155],[.arr 48 (.int .u64)]⟩)]⟩] 41 Tryz.f80 [.p,.p,.p] [.val Y2,.val (.int .u64),.val Y2] [⟨Y2,[some 48],none⟩,⟨(.int .i64),[none],none⟩] d
noncomputable def E_r02_Write:Entry:=⟨80,[.p,.p,.p],[.val Y2,.val (.int .u64),.val Y2],[⟨Y2,[some 48],none⟩,⟨(.int .i64),[none],none⟩],F_r02_Write⟩
theorem S_r02_Write:Snd E_r02_Write:=ent_ok te_ok mix_ok (sc S_r02_span sn) (fn:=Tryz.f80) (by kernel_rfl) (by kernel_rfl) (F:=F_r02_Write) rfl
noncomputable def F_r05_Init (d:Pden [.val Y8,.val (.int .u64),.val Y16]):Option (Rden [⟨Y8,[none,none,some 48,none,none,none],none⟩,⟨(.int .i64),[none],none⟩] × Oden [.val Y8,.val (.int .u64),.val Y16]):=FT [E_r03_Encode.ent,E_r04_Proper.ent,E_r02_Write.ent] [] 43 Tryz.f40 [.p,.p,.p] [.val Y8,.val (.int .u64),.val Y16] [⟨Y8,[none,none,some 48,none,none,none],none⟩,⟨(.int .i64),[none],none⟩] d
noncomputable def E_r05_Init:Entry:=⟨40,[.p,.p,.p],[.val Y8,.val (.int .u64),.val Y16],[⟨Y8,[none,none,some 48,none,none,none],none⟩,⟨(.int .i64),[none],none⟩],F_r05_Init⟩
theorem S_r05_Init:Snd E_r05_Init:=ent_ok te_ok mix_ok (sc S_r03_Encode (sc S_r04_Proper (sc S_r02_Write sn))) (fn:=Tryz.f40) (by kernel_rfl) (by kernel_rfl) (F:=F_r05_Init) rfl
noncomputable def F_r07_New (d:Pden [.val Y8,.val Y16]):Option (Rden [⟨Y8,[none,none,some 48,none,none,none],none⟩,⟨(.int .u64),[none],none⟩,⟨(.int .i64),[none],none⟩] × Oden [.val Y8,.val Y16]):=FT [E_r04_Proper.ent,E_r07_Asks.ent,E_r03_Size.ent,E_r04_Need.ent,E_r07_small.ent,E_r07_large.ent,E_r05_Init.ent] [] 58 Tryz.f105 [.p,.p] [.val Y8,.val Y16] [⟨Y8,[none,none,some 48,none,none,none],none⟩,⟨(.int .u64),[none],none⟩,⟨(.int .i64),[none],none⟩] d
noncomputable def E_r07_New:Entry:=⟨105,[.p,.p],[.val Y8,.val Y16],[⟨Y8,[none,none,some 48,none,none,none],none⟩,⟨(.int .u64),[none],none⟩,⟨(.int .i64),[none],none⟩],F_r07_New⟩
theorem S_r07_New:Snd E_r07_New:=ent_ok te_ok mix_ok (sc S_r04_Proper (sc S_r07_Asks (sc S_r03_Size (sc S_r04_Need (sc S_r07_small (sc S_r07_large (sc S_r05_Init sn))))))) (fn:=Tryz.f105) (by kernel_rfl) (by kernel_rfl) (F:=F_r07_New) rfl
noncomputable def F_made_World_Put (d:Pden [.val Y13,.val Y16]):Option (Rden [⟨Y13,[none,none,none,none,none,none,none,none],none⟩] × Oden [.val Y13,.val Y16]):=FT [E_r07_New.ent] [] 29 Tryz.f82 [.p,.p] [.val Y13,.val Y16] [⟨Y13,[none,none,none,none,none,none,none,none],none⟩] d
noncomputable def E_made_World_Put:Entry:=⟨82,[.p,.p],[.val Y13,.val Y16],[⟨Y13,[none,none,none,none,none,none,none,none],none⟩],F_made_World_Put⟩
theorem S_made_World_Put:Snd E_made_World_Put:=ent_ok te_ok mix_ok (sc S_r07_New sn) (fn:=Tryz.f82) (by kernel_rfl) (by kernel_rfl) (F:=F_made_World_Put) rfl
noncomputable def F_made_World_pick (d:Pden [.val Y13,.ptr 36 Y10]):Option (Rden [⟨(.int .u64),[none],none⟩] × Oden [.val Y13,.ptr 36 Y10]):=FT [E_made_Tape_Next.ent] [] 20 Tryz.f88 [.p,.p] [.val Y13,.ptr 36 Y10] [⟨(.int .u64),[none],none⟩] d
noncomputable def E_made_World_pick:Entry:=⟨88,[.p,.p],[.val Y13,.ptr 36 Y10],[⟨(.int .u64),[none],none⟩],F_made_World_pick⟩
theorem S_made_World_pick:Snd E_made_World_pick:=ent_ok te_ok mix_ok (sc S_made_Tape_Next sn) (fn:=Tryz.f88) (by kernel_rfl) (by kernel_rfl) (F:=F_made_World_pick) rfl
noncomputable def F_r04_Of (d:Pden [.val Y1,.val (.int .u64)]):Option (Rden [⟨(.int .i64),[none],none⟩,⟨(.int .i64),[none],none⟩,⟨(.int .i64),[none],none⟩] × Oden [.val Y1,.val (.int .u64)]):=FT [E_r04_ValidConf.ent] [] 35 Tryz.f69 [.p,.p] [.val Y1,.val (.int .u64)] [⟨(.int .i64),[none],none⟩,⟨(.int .i64),[none],none⟩,⟨(.int .i64),[none],none⟩] d
noncomputable def E_r04_Of:Entry:=⟨69,[.p,.p],[.val Y1,.val (.int .u64)],[⟨(.int .i64),[none],none⟩,⟨(.int .i64),[none],none⟩,⟨(.int .i64),[none],none⟩],F_r04_Of⟩
theorem S_r04_Of:Snd E_r04_Of:=ent_ok te_ok mix_ok (sc S_r04_ValidConf sn) (fn:=Tryz.f69) (by kernel_rfl) (by kernel_rfl) (F:=F_r04_Of) rfl
noncomputable def F_r02_Index (d:Pden [.val Y2,.val (.int .u64)]):Option (Rden [⟨(.int .i64),[none],none⟩,⟨(.int .i64),[none],none⟩] × Oden [.val Y2,.val (.int .u64)]):=FT [E_r02_span.ent] [] 17 Tryz.f100 [.p,.p] [.val Y2,.val (.int .u64)] [⟨(.int .i64),[none],none⟩,⟨(.int .i64),[none],none⟩] d
noncomputable def E_r02_Index:Entry:=⟨100,[.p,.p],[.val Y2,.val (.int .u64)],[⟨(.int .i64),[none],none⟩,⟨(.int .i64),[none],none⟩],F_r02_Index⟩
theorem S_r02_Index:Snd E_r02_Index:=ent_ok te_ok mix_ok (sc S_r02_span sn) (fn:=Tryz.f100) (by kernel_rfl) (by kernel_rfl) (F:=F_r02_Index) rfl
noncomputable def F_r02_Load (d:Pden [.val Y2,.val (.int .u64)]):Option (Rden [⟨(.int .u64),[none],none⟩,⟨(.int .i64),[none],none⟩] × Oden [.val Y2,.val (.int .u64)]):=FT [E_r02_Index.ent] [] 21 Tryz.f70 [.p,.p] [.val Y2,.val (.int .u64)] [⟨(.int .u64),[none],none⟩,⟨(.int .i64),[none],none⟩] d
noncomputable def E_r02_Load:Entry:=⟨70,[.p,.p],[.val Y2,.val (.int .u64)],[⟨(.int .u64),[none],none⟩,⟨(.int .i64),[none],none⟩],F_r02_Load⟩
theorem S_r02_Load:Snd E_r02_Load:=ent_ok te_ok mix_ok (sc S_r02_Index sn) (fn:=Tryz.f70) (by kernel_rfl) (by kernel_rfl) (F:=F_r02_Load) rfl
noncomputable def F_r03_Decode (d:Pden [.val (.int .u64)]):Option (Rden [⟨Y16,[none,none,none],none⟩,⟨.bool,[none],none⟩] × Oden [.val (.int .u64)]):=FT [E_r03_Encode.ent] [] 33 Tryz.f71 [.p] [.val (.int .u64)] [⟨Y16,[none,none,none],none⟩,⟨.bool,[none],none⟩] d
noncomputable def E_r03_Decode:Entry:=⟨71,[.p],[.val (.int .u64)],[⟨Y16,[none,none,none],none⟩,⟨.bool,[none],none⟩],F_r03_Decode⟩
theorem S_r03_Decode:Snd E_r03_Decode:=ent_ok te_ok mix_ok (sc S_r03_Encode sn) (fn:=Tryz.f71) (by kernel_rfl) (by kernel_rfl) (F:=F_r03_Decode) rfl
noncomputable def F_r05_At (d:Pden [.val Y8,.val (.int .u64)]):Option (Rden [⟨Y16,[none,none,none],none⟩,⟨(.int .i64),[none],none⟩] × Oden [.val Y8,.val (.int .u64)]):=FT [E_r04_Proper.ent,E_r04_Of.ent,E_r02_Load.ent,E_r03_Decode.ent,E_r03_Size.ent] [] 96 Tryz.f25 [.p,.p] [.val Y8,.val (.int .u64)] [⟨Y16,[none,none,none],none⟩,⟨(.int .i64),[none],none⟩] d
noncomputable def E_r05_At:Entry:=⟨25,[.p,.p],[.val Y8,.val (.int .u64)],[⟨Y16,[none,none,none],none⟩,⟨(.int .i64),[none],none⟩],F_r05_At⟩
theorem S_r05_At:Snd E_r05_At:=ent_ok te_ok mix_ok (sc S_r04_Proper (sc S_r04_Of (sc S_r02_Load (sc S_r03_Decode (sc S_r03_Size sn))))) (fn:=Tryz.f25) (by kernel_rfl) (by kernel_rfl) (F:=F_r05_At) rfl
noncomputable def F_r05_Get (d:Pden [.val Y8,.val (.int .u64)]):Option (Rden [⟨Y16,[none,none,none],none⟩,⟨(.int .i64),[none],none⟩] × Oden [.val Y8,.val (.int .u64)]):=FT [E_r04_Proper.ent,E_r05_At.ent] [] 31 Tryz.f27 [.p,.p] [.val Y8,.val (.int .u64)] [⟨Y16,[none,none,none],none⟩,⟨(.int .i64),[none],none⟩] d
noncomputable def E_r05_Get:Entry:=⟨27,[.p,.p],[.val Y8,.val (.int .u64)],[⟨Y16,[none,none,none],none⟩,⟨(.int .i64),[none],none⟩],F_r05_Get⟩
theorem S_r05_Get:Snd E_r05_Get:=ent_ok te_ok mix_ok (sc S_r04_Proper (sc S_r05_At sn)) (fn:=Tryz.f27) (by kernel_rfl) (by kernel_rfl) (F:=F_r05_Get) rfl
noncomputable def F_r03_Pointer (d:Pden [.val Y16,.val (.int .i64)]):Option (Rden [⟨.bool,[none],none⟩] × Oden [.val Y16,.val (.int .i64)]):=FT [E_r03_Valid.ent] [] 35 Tryz.f106 [.p,.p] [.val Y16,.val (.int .i64)] [⟨.bool,[none],none⟩] d
noncomputable def E_r03_Pointer:Entry:=⟨106,[.p,.p],[.val Y16,.val (.int .i64)],[⟨.bool,[none],none⟩],F_r03_Pointer⟩
theorem S_r03_Pointer:Snd E_r03_Pointer:=ent_ok te_ok mix_ok (sc S_r03_Valid sn) (fn:=Tryz.f106) (by kernel_rfl) (by kernel_rfl) (F:=F_r03_Pointer) rfl
noncomputable def F_r05_Field (d:Pden [.val Y8,.val (.int .u64),.val (.int .i64)]):Option (Rden [⟨(.int .u64),[none],none⟩,⟨(.int .i64),[none],none⟩] × Oden [.val Y8,.val (.int .u64),.val (.int .i64)]):=FT [E_r05_Get.ent,E_r02_Load.ent] [] 37 Tryz.f30 [.p,.p,.p] [.val Y8,.val (.int .u64),.val (.int .i64)] [⟨(.int .u64),[none],none⟩,⟨(.int .i64),[none],none⟩] d
noncomputable def E_r05_Field:Entry:=⟨30,[.p,.p,.p],[.val Y8,.val (.int .u64),.val (.int .i64)],[⟨(.int .u64),[none],none⟩,⟨(.int .i64),[none],none⟩],F_r05_Field⟩
theorem S_r05_Field:Snd E_r05_Field:=ent_ok te_ok mix_ok (sc S_r05_Get (sc S_r02_Load sn)) (fn:=Tryz.f30) (by kernel_rfl) (by kernel_rfl) (F:=F_r05_Field) rfl
noncomputable def F_r02_Store (d:Pden [.val Y2,.val (.int .u64),.val (.int .u64)]):Option (Rden [⟨Y2,[some 48],none⟩,⟨(.int .i64),[none],none⟩] × Oden [.val Y2,.val (.int .u64),.val (.int .u64)]):=FT [E_r02_Write.ent] [] 15 Tryz.f77 [.p,.p,.p] [.val Y2,.val (.int .u64),.val (.int .u64)] [⟨Y2,[some 48],none⟩,⟨(.int .i64),[none],none⟩] d
noncomputable def E_r02_Store:Entry:=⟨77,[.p,.p,.p],[.val Y2,.val (.int .u64),.val (.int .u64)],[⟨Y2,[some 48],none⟩,⟨(.int .i64),[none],none⟩],F_r02_Store⟩
theorem S_r02_Store:Snd E_r02_Store:=ent_ok te_ok mix_ok (sc S_r02_Write sn) (fn:=Tryz.f77) (by kernel_rfl) (by kernel_rfl) (F:=F_r02_Store) rfl
noncomputable def F_r05_SetField (d:Pden [.val Y8,.val (.int .u64),.val (.int .i64),.val (.int .u64)]):Option (Rden [⟨Y8,[none,none,some 48,none,none,none],none⟩,⟨(.int .i64),[none],none⟩] × Oden [.val Y8,.val (.int .u64),.val (.int .i64),.val (.int .u64)]):=FT [E_r05_Field.ent,E_r02_Store.ent] [] 37 Tryz.f37 [.p,.p,.p,.p] [.val Y8,.val (.int .u64),.val (.int .i64),.val (.int .u64)] [⟨Y8,[none,none,some 48,none,none,none],none⟩,⟨(.int .i64),[none],none⟩] d
noncomputable def E_r05_SetField:Entry:=⟨37,[.p,.p,.p,.p],[.val Y8,.val (.int .u64),.val (.int .i64),.val (.int .u64)],[⟨Y8,[none,none,some 48,none,none,none],none⟩,⟨(.int .i64),[none],none⟩],F_r05_SetField⟩
theorem S_r05_SetField:Snd E_r05_SetField:=ent_ok te_ok mix_ok (sc S_r05_Field (sc S_r02_Store sn)) (fn:=Tryz.f37) (by kernel_rfl) (by kernel_rfl) (F:=F_r05_SetField) rfl
noncomputable def F_made_World_Link (d:Pden [.val Y13,.ptr 36 Y10]):Option (Rden [⟨Y13,[none,none,none,none,none,none,none,none],none⟩] × Oden [.val Y13,.ptr 36 Y10]):=FT [E_made_World_pick.ent,E_made_Tape_Next.ent,E_r05_Get.ent,E_r03_Pointer.ent,E_r05_SetField.ent] [] 55 Tryz.f84 [.p,.p] [.val Y13,.ptr 36 Y10] [⟨Y13,[none,none,none,none,none,none,none,none],none⟩] d
noncomputable def E_made_World_Link:Entry:=⟨84,[.p,.p],[.val Y13,.ptr 36 Y10],[⟨Y13,[none,none,none,none,none,none,none,none],none⟩],F_made_World_Link⟩
theorem S_made_World_Link:Snd E_made_World_Link:=ent_ok te_ok mix_ok (sc S_made_World_pick (sc S_made_Tape_Next (sc S_r05_Get (sc S_r03_Pointer (sc S_r05_SetField sn))))) (fn:=Tryz.f84) (by kernel_rfl) (by kernel_rfl) (F:=F_made_World_Link) rfl
noncomputable def F_made_crowd (d:Pden [.val Y8]):Option (Rden [⟨(.int .i64),[none],none⟩] × Oden [.val Y8]):=FT [] [⟨0,[],⟨[3,4],[.val (.int .i64),.val (.int .i64)],[],[],[]⟩,[(.exit 0,⟨[3],[.val (.int .i64)],[],[],[]⟩)]⟩] 31 Tryz.f107 [.p] [.val Y8] [⟨(.int .i64),[none],none⟩] d
noncomputable def E_made_crowd:Entry:=⟨107,[.p],[.val Y8],[⟨(.int .i64),[none],none⟩],F_made_crowd⟩
theorem S_made_crowd:Snd E_made_crowd:=ent_ok te_ok mix_ok sn (fn:=Tryz.f107) (by kernel_rfl) (by kernel_rfl) (F:=F_made_crowd) rfl
noncomputable def F_made_World_Pin (d:Pden [.val Y13,.ptr 36 Y10]):Option (Rden [⟨Y13,[none,none,none,none,none,none,none,none],none⟩] × Oden [.val Y13,.ptr 36 Y10]):=FT [E_made_World_pick.ent,E_r04_Of.ent,E_made_Tape_Next.ent,E_made_crowd.ent] [] 87 Tryz.f85 [.p,.p] [.val Y13,.ptr 36 Y10] [⟨Y13,[none,none,none,none,none,none,none,none],none⟩] d
noncomputable def E_made_World_Pin:Entry:=⟨85,[.p,.p],[.val Y13,.ptr 36 Y10],[⟨Y13,[none,none,none,none,none,none,none,none],none⟩],F_made_World_Pin⟩
theorem S_made_World_Pin:Snd E_made_World_Pin:=ent_ok te_ok mix_ok (sc S_made_World_pick (sc S_r04_Of (sc S_made_Tape_Next (sc S_made_crowd sn)))) (fn:=Tryz.f85) (by kernel_rfl) (by kernel_rfl) (F:=F_made_World_Pin) rfl
noncomputable def F_made_World_Drop (d:Pden [.val Y13,.ptr 36 Y10]):Option (Rden [⟨Y13,[none,none,none,none,none,none,none,none],none⟩] × Oden [.val Y13,.ptr 36 Y10]):=FT [E_made_Tape_Next.ent] [] 44 Tryz.f86 [.p,.p] [.val Y13,.ptr 36 Y10] [⟨Y13,[none,none,none,none,none,none,none,none],none⟩] d
noncomputable def E_made_World_Drop:Entry:=⟨86,[.p,.p],[.val Y13,.ptr 36 Y10],[⟨Y13,[none,none,none,none,none,none,none,none],none⟩],F_made_World_Drop⟩
theorem S_made_World_Drop:Snd E_made_World_Drop:=ent_ok te_ok mix_ok (sc S_made_Tape_Next sn) (fn:=Tryz.f86) (by kernel_rfl) (by kernel_rfl) (F:=F_made_World_Drop) rfl
noncomputable def F_r04_Address (d:Pden [.val Y1,.val (.int .i64),.val (.int .i64)]):Option (Rden [⟨(.int .u64),[none],none⟩,⟨(.int .i64),[none],none⟩] × Oden [.val Y1,.val (.int .i64),.val (.int .i64)]):=FT [E_r04_ValidConf.ent] [] 37 Tryz.f111 [.p,.p,.p] [.val Y1,.val (.int .i64),.val (.int .i64)] [⟨(.int .u64),[none],none⟩,⟨(.int .i64),[none],none⟩] d
noncomputable def E_r04_Address:Entry:=⟨111,[.p,.p,.p],[.val Y1,.val (.int .i64),.val (.int .i64)],[⟨(.int .u64),[none],none⟩,⟨(.int .i64),[none],none⟩],F_r04_Address⟩
theorem S_r04_Address:Snd E_r04_Address:=ent_ok te_ok mix_ok (sc S_r04_ValidConf sn) (fn:=Tryz.f111) (by kernel_rfl) (by kernel_rfl) (F:=F_r04_Address) rfl
noncomputable def F_r06_Page (d:Pden [.val Y8,.val (.int .i64)]):Option (Rden [⟨Y2,[none],none⟩,⟨(.int .i64),[none],none⟩] × Oden [.val Y8,.val (.int .i64)]):=FT [E_r04_Proper.ent,E_r04_Address.ent,E_r05_At.ent,E_r03_Size.ent] [⟨0,[],⟨[4,5,7,8],[.val Y2,.val (.int .i64),.own 0,.val (.int .i64)],[.arr 48 (.int .u64)],[],[]⟩,[(.ret,⟨[4,5],[.val Y2,.val (.int .i64)],[],[],[]⟩),(.exit 0,⟨[4,5,7],[.val Y2,.val (.int .i64),.own 0],[.arr 48 (.int .u64)],[],[]⟩)]⟩] 70 Tryz.f95 [.p,.p] [.val Y8,.val (.int .i64)] [⟨Y2,[none],none⟩,⟨(.int .i64),[none],none⟩] d
noncomputable def E_r06_Page:Entry:=⟨95,[.p,.p],[.val Y8,.val (.int .i64)],[⟨Y2,[none],none⟩,⟨(.int .i64),[none],none⟩],F_r06_Page⟩
theorem S_r06_Page:Snd E_r06_Page:=ent_ok te_ok mix_ok (sc S_r04_Proper (sc S_r04_Address (sc S_r05_At (sc S_r03_Size sn)))) (fn:=Tryz.f95) (by kernel_rfl) (by kernel_rfl) (F:=F_r06_Page) rfl
noncomputable def F_r09_class (d:Pden [.val Y8,.val (.int .i64),.val Y2]):Option (Rden [⟨(.int .u64),[none],none⟩] × Oden [.val Y8,.val (.int .i64),.val Y2]):=FT [E_r05_At.ent,E_r03_Size.ent,E_r04_SmallWords.ent] [⟨0,[],⟨[6,7],[.val (.int .u64),.val (.int .i64)],[],[],[]⟩,[(.ret,⟨[6],[.val (.int .u64)],[],[],[]⟩),(.exit 0,⟨[6],[.val (.int .u64)],[],[],[]⟩)]⟩] 61 Tryz.f153 [.p,.p,.p] [.val Y8,.val (.int .i64),.val Y2] [⟨(.int .u64),[none],none⟩] d
noncomputable def E_r09_class:Entry:=⟨153,[.p,.p,.p],[.val Y8,.val (.int .i64),.val Y2],[⟨(.int .u64),[none],none⟩],F_r09_class⟩
theorem S_r09_class:Snd E_r09_class:=ent_ok te_ok mix_ok (sc S_r05_At (sc S_r03_Size (sc S_r04_SmallWords sn))) (fn:=Tryz.f153) (by kernel_rfl) (by kernel_rfl) (F:=F_r09_class) rfl
noncomputable def F_r09_head (d:Pden [.val Y8,.val (.int .i64)]):Option (Rden [⟨(.int .i64),[none],none⟩] × Oden [.val Y8,.val (.int .i64)]):=FT [] [⟨0,[],⟨[1],[.val (.int .i64)],[],[],[]⟩,[(.exit 0,⟨[1],[.val (.int .i64)],[],[],[]⟩)]⟩] 15 Tryz.f155 [.p,.p] [.val Y8,.val (.int .i64)] [⟨(.int .i64),[none],none⟩] d
noncomputable def E_r09_head:Entry:=⟨155,[.p,.p],[.val Y8,.val (.int .i64)],[⟨(.int .i64),[none],none⟩],F_r09_head⟩
theorem S_r09_head:Snd E_r09_head:=ent_ok te_ok mix_ok sn (fn:=Tryz.f155) (by kernel_rfl) (by kernel_rfl) (F:=F_r09_head) rfl
noncomputable def F_r09_used (d:Pden [.val Y8,.val (.int .i64),.val Y2]):Option (Rden [⟨Y18,[some 4],none⟩] × Oden [.val Y8,.val (.int .i64),.val Y2]):=FT [E_r05_At.ent,E_r03_Size.ent] [⟨2,[],⟨[12],[.val (.int .i64)],[],[323],[.arr 4 .bool]⟩,[(.exit 2,⟨[],[],[],[323],[.arr 4 .bool]⟩)]⟩,⟨0,[],⟨[8],[.val (.int .i64)],[],[323],[.arr 4 .bool]⟩,[(.exit 0,⟨[],[],[],[323],[.arr 4 .bool]⟩)]⟩] 69 Tryz.f156 [.p,.p,.p] [.val Y8,.val (.int .i64),.val Y2] [⟨Y18,[some 4],none⟩] d
noncomputable def E_r09_used:Entry:=⟨156,[.p,.p,.p],[.val Y8,.val (.int .i64),.val Y2],[⟨Y18,[some 4],none⟩],F_r09_used⟩
theorem S_r09_used:Snd E_r09_used:=ent_ok te_ok mix_ok (sc S_r05_At (sc S_r03_Size sn)) (fn:=Tryz.f156) (by kernel_rfl) (by kernel_rfl) (F:=F_r09_used) rfl
noncomputable def F_r06_word (d:Pden [.val Y8,.val (.int .i64),.val (.int .i64)]):Option (Rden [⟨(.int .u64),[none],none⟩] × Oden [.val Y8,.val (.int .i64),.val (.int .i64)]):=FT [E_r04_Address.ent,E_r02_Load.ent] [] 27 Tryz.f159 [.p,.p,.p] [.val Y8,.val (.int .i64),.val (.int .i64)] [⟨(.int .u64),[none],none⟩] d
noncomputable def E_r06_word:Entry:=⟨159,[.p,.p,.p],[.val Y8,.val (.int .i64),.val (.int .i64)],[⟨(.int .u64),[none],none⟩],F_r06_word⟩
theorem S_r06_word:Snd E_r06_word:=ent_ok te_ok mix_ok (sc S_r04_Address (sc S_r02_Load sn)) (fn:=Tryz.f159) (by kernel_rfl) (by kernel_rfl) (F:=F_r06_word) rfl
noncomputable def F_r06_Word (d:Pden [.val Y8,.val (.int .i64),.val (.int .i64)]):Option (Rden [⟨(.int .u64),[none],none⟩] × Oden [.val Y8,.val (.int .i64),.val (.int .i64)]):=FT [E_r06_word.ent] [] 11 Tryz.f157 [.p,.p,.p] [.val Y8,.val (.int .i64),.val (.int .i64)] [⟨(.int .u64),[none],none⟩] d
noncomputable def E_r06_Word:Entry:=⟨157,[.p,.p,.p],[.val Y8,.val (.int .i64),.val (.int .i64)],[⟨(.int .u64),[none],none⟩],F_r06_Word⟩
theorem S_r06_Word:Snd E_r06_Word:=ent_ok te_ok mix_ok (sc S_r06_word sn) (fn:=Tryz.f157) (by kernel_rfl) (by kernel_rfl) (F:=F_r06_Word) rfl
noncomputable def F_r09_address (d:Pden [.val Y8,.val (.int .i64),.val (.int .i64)]):Option (Rden [⟨(.int .u64),[none],none⟩] × Oden [.val Y8,.val (.int .i64),.val (.int .i64)]):=FT [] [] 16 Tryz.f158 [.p,.p,.p] [.val Y8,.val (.int .i64),.val (.int .i64)] [⟨(.int .u64),[none],none⟩] d
noncomputable def E_r09_address:Entry:=⟨158,[.p,.p,.p],[.val Y8,.val (.int .i64),.val (.int .i64)],[⟨(.int .u64),[none],none⟩],F_r09_address⟩
theorem S_r09_address:Snd E_r09_address:=ent_ok te_ok mix_ok sn (fn:=Tryz.f158) (by kernel_rfl) (by kernel_rfl) (F:=F_r09_address) rfl
noncomputable def F_r09_dirt (d:Pden [.val Y8,.val (.int .i64)]):Option (Rden [⟨(.int .u64),[none],none⟩] × Oden [.val Y8,.val (.int .i64)]):=FT [E_r09_head.ent,E_r06_Page.ent,E_r09_used.ent,E_r06_Word.ent,E_r09_address.ent] [⟨0,[],⟨[4,8],[.val (.int .u64),.val (.int .i64)],[],[],[]⟩,[(.ret,⟨[4],[.val (.int .u64)],[],[],[]⟩),(.exit 0,⟨[4],[.val (.int .u64)],[],[],[]⟩)]⟩] 43 Tryz.f154 [.p,.p] [.val Y8,.val (.int .i64)] [⟨(.int .u64),[none],none⟩] d
noncomputable def E_r09_dirt:Entry:=⟨154,[.p,.p],[.val Y8,.val (.int .i64)],[⟨(.int .u64),[none],none⟩],F_r09_dirt⟩
theorem S_r09_dirt:Snd E_r09_dirt:=ent_ok te_ok mix_ok (sc S_r09_head (sc S_r06_Page (sc S_r09_used (sc S_r06_Word (sc S_r09_address sn))))) (fn:=Tryz.f154) (by kernel_rfl) (by kernel_rfl) (F:=F_r09_dirt) rfl
noncomputable def F_r09_page (d:Pden [.val Y8,.val (.int .i64)]):Option (Rden [⟨Y21,[none,none,none],none⟩] × Oden [.val Y8,.val (.int .i64)]):=FT [E_r06_Page.ent,E_r09_class.ent,E_r09_dirt.ent] [] 57 Tryz.f151 [.p,.p] [.val Y8,.val (.int .i64)] [⟨Y21,[none,none,none],none⟩] d
noncomputable def E_r09_page:Entry:=⟨151,[.p,.p],[.val Y8,.val (.int .i64)],[⟨Y21,[none,none,none],none⟩],F_r09_page⟩
theorem S_r09_page:Snd E_r09_page:=ent_ok te_ok mix_ok (sc S_r06_Page (sc S_r09_class (sc S_r09_dirt sn))) (fn:=Tryz.f151) (by kernel_rfl) (by kernel_rfl) (F:=F_r09_page) rfl
noncomputable def F_r06_Starts (d:Pden [.val Y8]):Option (Rden [⟨Y2,[none],none⟩,⟨(.int .i64),[none],none⟩] × Oden [.val Y8]):=FT [E_r04_Proper.ent,E_r06_Page.ent] [⟨0,[],⟨[2,3,4,5],[.val Y2,.val (.int .i64),.own 0,.val (.int .i64)],[.arr 48 (.int .u64)],[],[]⟩,[(.ret,⟨[2,3],[.val Y2,.val (.int .i64)],[],[],[]⟩),(.exit 0,⟨[2,3,4],[.val Y2,.val (.int .i64),.own 0],[.arr 48 (.int .u64)],[],[]⟩)]⟩] 31 Tryz.f63 [.p] [.val Y8] [⟨Y2,[none],none⟩,⟨(.int .i64),[none],none⟩] d
noncomputable def E_r06_Starts:Entry:=⟨63,[.p],[.val Y8],[⟨Y2,[none],none⟩,⟨(.int .i64),[none],none⟩],F_r06_Starts⟩
theorem S_r06_Starts:Snd E_r06_Starts:=ent_ok te_ok mix_ok (sc S_r04_Proper (sc S_r06_Page sn)) (fn:=Tryz.f63) (by kernel_rfl) (by kernel_rfl) (F:=F_r06_Starts) rfl
noncomputable def F_r06_Objects (d:Pden [.val Y8]):Option (Rden [⟨Y2,[some 48],none⟩,⟨(.int .i64),[none],none⟩] × Oden [.val Y8]):=FT [E_r06_Starts.ent,E_r05_At.ent] [⟨0,[],⟨[6,7],[.own 0,.val (.int .i64)],[.arr 48 (.int .u64)],[],[]⟩,[(.exit 0,⟨[6],[.own 0],[.arr 48 (.int .u64)],[],[]⟩)]⟩] 42 Tryz.f135 [.p] [.val Y8] [⟨Y2,[some 48],none⟩,⟨(.int .i64),[none],none⟩] d
noncomputable def E_r06_Objects:Entry:=⟨135,[.p],[.val Y8],[⟨Y2,[some 48],none⟩,⟨(.int .i64),[none],none⟩],F_r06_Objects⟩
theorem S_r06_Objects:Snd E_r06_Objects:=ent_ok te_ok mix_ok (sc S_r06_Starts (sc S_r05_At sn)) (fn:=Tryz.f135) (by kernel_rfl) (by kernel_rfl) (F:=F_r06_Objects) rfl
noncomputable def F_r02_Read (d:Pden [.val Y2,.val (.int .u64),.val (.int .i64)]):Option (Rden [⟨Y2,[some 48],none⟩,⟨(.int .i64),[none],none⟩] × Oden [.val Y2,.val (.int .u64),.val (.int .i64)]):=FT [E_r02_span.ent] [] 29 Tryz.f75 [.p,.p,.p] [.val Y2,.val (.int .u64),.val (.int .i64)] [⟨Y2,[some 48],none⟩,⟨(.int .i64),[none],none⟩] d
noncomputable def E_r02_Read:Entry:=⟨75,[.p,.p,.p],[.val Y2,.val (.int .u64),.val (.int .i64)],[⟨Y2,[some 48],none⟩,⟨(.int .i64),[none],none⟩],F_r02_Read⟩
theorem S_r02_Read:Snd E_r02_Read:=ent_ok te_ok mix_ok (sc S_r02_span sn) (fn:=Tryz.f75) (by kernel_rfl) (by kernel_rfl) (F:=F_r02_Read) rfl
noncomputable def F_r05_Fields (d:Pden [.val Y8,.val (.int .u64)]):Option (Rden [⟨Y2,[some 48],none⟩,⟨(.int .i64),[none],none⟩] × Oden [.val Y8,.val (.int .u64)]):=FT [E_r05_Get.ent,E_r02_Read.ent] [] 26 Tryz.f32 [.p,.p] [.val Y8,.val (.int .u64)] [⟨Y2,[some 48],none⟩,⟨(.int .i64),[none],none⟩] d
noncomputable def E_r05_Fields:Entry:=⟨32,[.p,.p],[.val Y8,.val (.int .u64)],[⟨Y2,[some 48],none⟩,⟨(.int .i64),[none],none⟩],F_r05_Fields⟩
theorem S_r05_Fields:Snd E_r05_Fields:=ent_ok te_ok mix_ok (sc S_r05_Get (sc S_r02_Read sn)) (fn:=Tryz.f32) (by kernel_rfl) (by kernel_rfl) (F:=F_r05_Fields) rfl
noncomputable def F_r06_Has (d:Pden [.val Y2,.val (.int .u64)]):Option (Rden [⟨.bool,[none],none⟩] × Oden [.val Y2,.val (.int .u64)]):=FT [] [⟨0,[],⟨[4,5],[.val .bool,.val (.int .i64)],[],[],[]⟩,[(.ret,⟨[4],[.val .bool],[],[],[]⟩),(.exit 0,⟨[4],[.val .bool],[],[],[]⟩)]⟩] 18 Tryz.f136 [.p,.p] [.val Y2,.val (.int .u64)] [⟨.bool,[none],none⟩] d
noncomputable def E_r06_Has:Entry:=⟨136,[.p,.p],[.val Y2,.val (.int .u64)],[⟨.bool,[none],none⟩],F_r06_Has⟩
theorem S_r06_Has:Snd E_r06_Has:=ent_ok te_ok mix_ok sn (fn:=Tryz.f136) (by kernel_rfl) (by kernel_rfl) (F:=F_r06_Has) rfl
noncomputable def F_r09_pointers (d:Pden [.val Y8]):Option (Rden [⟨Y21,[none,none,none],none⟩] × Oden [.val Y8]):=FT [E_r06_Objects.ent,E_r05_Get.ent,E_r05_Fields.ent,E_r03_Pointer.ent,E_r06_Has.ent,E_r04_Of.ent] [⟨2,[],⟨[10],[.val (.int .i64)],[],[65],[.box 165 [.val (.int .i64),.val (.int .i64),.val (.int .u64)]]⟩,[(.ret,⟨[],[],[],[65],[.box 165 [.val (.int .i64),.val (.int .i64),.val (.int .u64)]]⟩),(.exit 2,⟨[],[],[],[65],[.box 165 [.val (.int .i64),.val (.int .i64),.val (.int .u64)]]⟩)]⟩,⟨0,[],⟨[5],[.val (.int .i64)],[],[65],[.box 165 [.val (.int .i64),.val (.int .i64),.val (.int .u64)]]⟩,[(.ret,⟨[],[],[],[65],[.box 165 [.val (.int .i64),.val (.int .i64),.val (.int .u64)]]⟩),(.exit 0,⟨[],[],[],[65],[.box 165 [.val (.int .i64),.val (.int .i64),.val (.int .u64)]]⟩)]⟩] 89 Tryz.f152 [.p] [.val Y8] [⟨Y21,[none,none,none],none⟩] d
noncomputable def E_r09_pointers:Entry:=⟨152,[.p],[.val Y8],[⟨Y21,[none,none,none],none⟩],F_r09_pointers⟩
theorem S_r09_pointers:Snd E_r09_pointers:=ent_ok te_ok mix_ok (sc S_r06_Objects (sc S_r05_Get (sc S_r05_Fields (sc S_r03_Pointer (sc S_r06_Has (sc S_r04_Of sn)))))) (fn:=Tryz.f152) (by kernel_rfl) (by kernel_rfl) (F:=F_r09_pointers) rfl
noncomputable def F_r09_Check (d:Pden [.val Y8]):Option (Rden [⟨Y21,[none,none,none],none⟩] × Oden [.val Y8]):=FT [E_r04_Proper.ent,E_r09_page.ent,E_r09_pointers.ent] [⟨0,[],⟨[3],[.val (.int .i64)],[],[65],[.box 165 [.val (.int .i64),.val (.int .i64),.val (.int .u64)]]⟩,[(.ret,⟨[],[],[],[65],[.box 165 [.val (.int .i64),.val (.int .i64),.val (.int .u64)]]⟩),(.exit 0,⟨[],[],[],[65],[.box 165 [.val (.int .i64),.val (.int .i64),.val (.int .u64)]]⟩)]⟩,⟨2,[],⟨[6,7],[.val (.int .i64),.val (.int .i64)],[],[],[]⟩,[(.exit 2,⟨[6],[.val (.int .i64)],[],[],[]⟩)]⟩] 65 Tryz.f144 [.p] [.val Y8] [⟨Y21,[none,none,none],none⟩] d
noncomputable def E_r09_Check:Entry:=⟨144,[.p],[.val Y8],[⟨Y21,[none,none,none],none⟩],F_r09_Check⟩
theorem S_r09_Check:Snd E_r09_Check:=ent_ok te_ok mix_ok (sc S_r04_Proper (sc S_r09_page (sc S_r09_pointers sn))) (fn:=Tryz.f144) (by kernel_rfl) (by kernel_rfl) (F:=F_r09_Check) rfl
noncomputable def F_r09_Good (d:Pden [.val Y8]):Option (Rden [⟨.bool,[none],none⟩] × Oden [.val Y8]):=FT [E_r09_Check.ent] [] 7 Tryz.f134 [.p] [.val Y8] [⟨.bool,[none],none⟩] d
noncomputable def E_r09_Good:Entry:=⟨134,[.p],[.val Y8],[⟨.bool,[none],none⟩],F_r09_Good⟩
theorem S_r09_Good:Snd E_r09_Good:=ent_ok te_ok mix_ok (sc S_r09_Check sn) (fn:=Tryz.f134) (by kernel_rfl) (by kernel_rfl) (F:=F_r09_Good) rfl
noncomputable def F_r09_Refers (d:Pden [.val Y8,.val Y2]):Option (Rden [⟨.bool,[none],none⟩] × Oden [.val Y8,.val Y2]):=FT [E_r09_Good.ent,E_r06_Objects.ent,E_r06_Has.ent] [⟨0,[],⟨[4,7],[.val .bool,.val (.int .i64)],[],[],[]⟩,[(.ret,⟨[4],[.val .bool],[],[],[]⟩),(.exit 0,⟨[4],[.val .bool],[],[],[]⟩)]⟩] 36 Tryz.f122 [.p,.p] [.val Y8,.val Y2] [⟨.bool,[none],none⟩] d
noncomputable def E_r09_Refers:Entry:=⟨122,[.p,.p],[.val Y8,.val Y2],[⟨.bool,[none],none⟩],F_r09_Refers⟩
theorem S_r09_Refers:Snd E_r09_Refers:=ent_ok te_ok mix_ok (sc S_r09_Good (sc S_r06_Objects (sc S_r06_Has sn))) (fn:=Tryz.f122) (by kernel_rfl) (by kernel_rfl) (F:=F_r09_Refers) rfl
noncomputable def F_r10_Begin (d:Pden [.val Y8]):Option (Rden [⟨Y29,[none,none,none,some 76,none,none,some 48,none,none,none,none,none,none,none,none,none],none⟩,⟨(.int .i64),[none],none⟩] × Oden [.val Y8]):=FT [E_r04_Proper.ent,E_r09_Good.ent,E_r06_Objects.ent] [⟨0,[],⟨[5],[.val (.int .i64)],[],[1857],[.arr 76 Y4]⟩,[(.exit 0,⟨[],[],[],[1857],[.arr 76 Y4]⟩)]⟩] 61 Tryz.f123 [.p] [.val Y8] [⟨Y29,[none,none,none,some 76,none,none,some 48,none,none,none,none,none,none,none,none,none],none⟩,⟨(.int .i64),[none],none⟩] d
noncomputable def E_r10_Begin:Entry:=⟨123,[.p],[.val Y8],[⟨Y29,[none,none,none,some 76,none,none,some 48,none,none,none,none,none,none,none,none,none],none⟩,⟨(.int .i64),[none],none⟩],F_r10_Begin⟩
theorem S_r10_Begin:Snd E_r10_Begin:=ent_ok te_ok mix_ok (sc S_r04_Proper (sc S_r09_Good (sc S_r06_Objects sn))) (fn:=Tryz.f123) (by kernel_rfl) (by kernel_rfl) (F:=F_r10_Begin) rfl
noncomputable def F_r03_Target (d:Pden [.val (.int .u64)]):Option (Rden [⟨(.int .u64),[none],none⟩,⟨.bool,[none],none⟩] × Oden [.val (.int .u64)]):=FT [] [] 14 Tryz.f139 [.p] [.val (.int .u64)] [⟨(.int .u64),[none],none⟩,⟨.bool,[none],none⟩] d
noncomputable def E_r03_Target:Entry:=⟨139,[.p],[.val (.int .u64)],[⟨(.int .u64),[none],none⟩,⟨.bool,[none],none⟩],F_r03_Target⟩
theorem S_r03_Target:Snd E_r03_Target:=ent_ok te_ok mix_ok sn (fn:=Tryz.f139) (by kernel_rfl) (by kernel_rfl) (F:=F_r03_Target) rfl
noncomputable def F_r10_taken (d:Pden [.val Y29,.val (.int .i64)]):Option (Rden [⟨.bool,[none],none⟩] × Oden [.val Y29,.val (.int .i64)]):=FT [] [⟨0,[],⟨[4,5],[.val .bool,.val (.int .i64)],[],[],[]⟩,[(.ret,⟨[4],[.val .bool],[],[],[]⟩),(.exit 0,⟨[4],[.val .bool],[],[],[]⟩)]⟩] 20 Tryz.f150 [.p,.p] [.val Y29,.val (.int .i64)] [⟨.bool,[none],none⟩] d
noncomputable def E_r10_taken:Entry:=⟨150,[.p,.p],[.val Y29,.val (.int .i64)],[⟨.bool,[none],none⟩],F_r10_taken⟩
theorem S_r10_taken:Snd E_r10_taken:=ent_ok te_ok mix_ok sn (fn:=Tryz.f150) (by kernel_rfl) (by kernel_rfl) (F:=F_r10_taken) rfl
noncomputable def F_r10_Promoted (d:Pden [.val Y29,.val (.int .i64)]):Option (Rden [⟨.bool,[none],none⟩] × Oden [.val Y29,.val (.int .i64)]):=FT [E_r10_taken.ent] [] 39 Tryz.f140 [.p,.p] [.val Y29,.val (.int .i64)] [⟨.bool,[none],none⟩] d
noncomputable def E_r10_Promoted:Entry:=⟨140,[.p,.p],[.val Y29,.val (.int .i64)],[⟨.bool,[none],none⟩],F_r10_Promoted⟩
theorem S_r10_Promoted:Snd E_r10_Promoted:=ent_ok te_ok mix_ok (sc S_r10_taken sn) (fn:=Tryz.f140) (by kernel_rfl) (by kernel_rfl) (F:=F_r10_Promoted) rfl
noncomputable def F_r10_keep (d:Pden [.val Y29,.val (.int .u64)]):Option (Rden [⟨Y29,[none,none,none,none,none,none,none,none,some 48,none,none,none,none,none,none,none],none⟩] × Oden [.val Y29,.val (.int .u64)]):=FT [] [] 20 Tryz.f145 [.p,.p] [.val Y29,.val (.int .u64)] [⟨Y29,[none,none,none,none,none,none,none,none,some 48,none,none,none,none,none,none,none],none⟩] d
noncomputable def E_r10_keep:Entry:=⟨145,[.p,.p],[.val Y29,.val (.int .u64)],[⟨Y29,[none,none,none,none,none,none,none,none,some 48,none,none,none,none,none,none,none],none⟩],F_r10_keep⟩
theorem S_r10_keep:Snd E_r10_keep:=ent_ok te_ok mix_ok sn (fn:=Tryz.f145) (by kernel_rfl) (by kernel_rfl) (F:=F_r10_keep) rfl
noncomputable def F_r10_place (d:Pden [.val Y29,.val (.int .i64)]):Option (Rden [⟨Y29,[none,none,none,some 76,none,none,none,none,none,none,none,none,none,none,none,none],none⟩,⟨(.int .u64),[none],none⟩,⟨.bool,[none],none⟩] × Oden [.val Y29,.val (.int .i64)]):=FT [E_r04_First.ent,E_r04_Small_o.ent] [] 111 Tryz.f146 [.p,.p] [.val Y29,.val (.int .i64)] [⟨Y29,[none,none,none,some 76,none,none,none,none,none,none,none,none,none,none,none,none],none⟩,⟨(.int .u64),[none],none⟩,⟨.bool,[none],none⟩] d
noncomputable def E_r10_place:Entry:=⟨146,[.p,.p],[.val Y29,.val (.int .i64)],[⟨Y29,[none,none,none,some 76,none,none,none,none,none,none,none,none,none,none,none,none],none⟩,⟨(.int .u64),[none],none⟩,⟨.bool,[none],none⟩],F_r10_place⟩
theorem S_r10_place:Snd E_r10_place:=ent_ok te_ok mix_ok (sc S_r04_First (sc S_r04_Small_o sn)) (fn:=Tryz.f146) (by kernel_rfl) (by kernel_rfl) (F:=F_r10_place) rfl
noncomputable def F_r02_Move (d:Pden [.val Y2,.val (.int .u64),.val (.int .u64),.val (.int .i64)]):Option (Rden [⟨Y2,[some 48],none⟩,⟨(.int .i64),[none],none⟩] × Oden [.val Y2,.val (.int .u64),.val (.int .u64),.val (.int .i64)]):=FT [E_r02_Read.ent,E_r02_Write.ent] [] 28 Tryz.f147 [.p,.p,.p,.p] [.val Y2,.val (.int .u64),.val (.int .u64),.val (.int .i64)] [⟨Y2,[some 48],none⟩,⟨(.int .i64),[none],none⟩] d
noncomputable def E_r02_Move:Entry:=⟨147,[.p,.p,.p,.p],[.val Y2,.val (.int .u64),.val (.int .u64),.val (.int .i64)],[⟨Y2,[some 48],none⟩,⟨(.int .i64),[none],none⟩],F_r02_Move⟩
theorem S_r02_Move:Snd E_r02_Move:=ent_ok te_ok mix_ok (sc S_r02_Read (sc S_r02_Write sn)) (fn:=Tryz.f147) (by kernel_rfl) (by kernel_rfl) (F:=F_r02_Move) rfl
noncomputable def F_r03_Forward (d:Pden [.val (.int .u64)]):Option (Rden [⟨(.int .u64),[none],none⟩,⟨(.int .i64),[none],none⟩] × Oden [.val (.int .u64)]):=FT [] [] 9 Tryz.f148 [.p] [.val (.int .u64)] [⟨(.int .u64),[none],none⟩,⟨(.int .i64),[none],none⟩] d
noncomputable def E_r03_Forward:Entry:=⟨148,[.p],[.val (.int .u64)],[⟨(.int .u64),[none],none⟩,⟨(.int .i64),[none],none⟩],F_r03_Forward⟩
theorem S_r03_Forward:Snd E_r03_Forward:=ent_ok te_ok mix_ok sn (fn:=Tryz.f148) (by kernel_rfl) (by kernel_rfl) (F:=F_r03_Forward) rfl
noncomputable def F_r10_Forward (d:Pden [.val Y29,.val (.int .u64)]):Option (Rden [⟨Y29,[none,none,none,none,none,none,none,none,none,none,none,none,none,none,none,none],none⟩,⟨(.int .u64),[none],none⟩,⟨(.int .i64),[none],none⟩] × Oden [.val Y29,.val (.int .u64)]):=FT [E_r06_Has.ent,E_r02_Load.ent,E_r03_Target.ent,E_r04_Of.ent,E_r10_Promoted.ent,E_r10_keep.ent,E_r03_Decode.ent,E_r03_Size.ent,E_r10_place.ent,E_r02_Move.ent,E_r03_Forward.ent,E_r02_Store.ent] [⟨0,[],⟨[14],[.val (.int .i64)],[],[6210],[.arr 76 Y4]⟩,[(.exit 0,⟨[],[],[],[6210],[.arr 76 Y4]⟩)]⟩] 202 Tryz.f137 [.p,.p] [.val Y29,.val (.int .u64)] [⟨Y29,[none,none,none,none,none,none,none,none,none,none,none,none,none,none,none,none],none⟩,⟨(.int .u64),[none],none⟩,⟨(.int .i64),[none],none⟩] d
noncomputable def E_r10_Forward:Entry:=⟨137,[.p,.p],[.val Y29,.val (.int .u64)],[⟨Y29,[none,none,none,none,none,none,none,none,none,none,none,none,none,none,none,none],none⟩,⟨(.int .u64),[none],none⟩,⟨(.int .i64),[none],none⟩],F_r10_Forward⟩
theorem S_r10_Forward:Snd E_r10_Forward:=ent_ok te_ok mix_ok (sc S_r06_Has (sc S_r02_Load (sc S_r03_Target (sc S_r04_Of (sc S_r10_Promoted (sc S_r10_keep (sc S_r03_Decode (sc S_r03_Size (sc S_r10_place (sc S_r02_Move (sc S_r03_Forward (sc S_r02_Store sn)))))))))))) (fn:=Tryz.f137) (by kernel_rfl) (by kernel_rfl) (F:=F_r10_Forward) rfl
noncomputable def F_r11_Roots (d:Pden [.val Y29,.val Y2]):Option (Rden [⟨Y29,[none,none,none,none,none,none,none,none,none,none,none,none,none,none,none,none],none⟩,⟨Y2,[none],none⟩,⟨(.int .i64),[none],none⟩] × Oden [.val Y29,.val Y2]):=FT [E_r10_Forward.ent] [⟨0,[],⟨[5,6,7,8],[.val Y2,.val (.int .i64),.own 0,.val (.int .i64)],[.arr 48 (.int .u64)],[2,66],[.box 145 [.val (.int .i64),.val (.int .i64),.val Y2,.val Y5,.val (.int .i64),.val (.int .i64),.val Y2,.val Y9,.val Y2,.val (.int .i64),.val (.int .i64),.val (.int .i64),.val (.int .i64),.val (.int .i64),.val (.int .i64),.val (.int .i64)],.box 145 [.val (.int .i64),.val (.int .i64),.val Y2,.val Y5,.val (.int .i64),.val (.int .i64),.val Y2,.val Y9,.val Y2,.val (.int .i64),.val (.int .i64),.val (.int .i64),.val (.int .i64),.val (.int .i64),.val (.int .i64),.val (.int .i64)]]⟩,[(.ret,⟨[5,6],[.val Y2,.val (.int .i64)],[],[2,66],[.box 145 [.val (.int .i64),.val (.int .i64),.val Y2,.val Y5,.val (.int .i64),.val (.int .i64),.val Y2,.val Y9,.val Y2,.val (.int .i64),.val (.int .i64),.val (.int .i64),.val (.int .i64),.val (.int .i64),.val (.int .i64),.val (.int .i64)],.box 145 [.val (.int .i64),.val (.int .i64),.val Y2,.val Y5,.val (.int .i64),.val (.int .i64),.val Y2,.val Y9,.val Y2,.val (.int .i64),.val (.int .i64),.val (.int .i64),.val (.int .i64),.val (.int .i64),.val (.int .i64),.val (.int .i64)]]⟩),(.exit 0,⟨[5,6,7],[.val Y2,.val (.int .i64),.own 0],[.arr 48 (.int .u64)],[2,66],[.box 145 [.val (.int .i64),.val (.int .i64),.val Y2,.val Y5,.val (.int .i64),.val (.int .i64),.val Y2,.val Y9,.val Y2,.val (.int .i64),.val (.int .i64),.val (.int .i64),.val (.int .i64),.val (.int .i64),.val (.int .i64),.val (.int .i64)],.box 145 [.val (.int .i64),.val (.int .i64),.val Y2,.val Y5,.val (.int .i64),.val (.int .i64),.val Y2,.val Y9,.val Y2,.val (.int .i64),.val (.int .i64),.val (.int .i64),.val (.int .i64),.val (.int .i64),.val (.int .i64),.val (.int .i64)]]⟩)]⟩] 39 Tryz.f124 [.p,.p] [.val Y29,.val Y2] [⟨Y29,[none,none,none,none,none,none,none,none,none,none,none,none,none,none,none,none],none⟩,⟨Y2,[none],none⟩,⟨(.int .i64),[none],none⟩] d
noncomputable def E_r11_Roots:Entry:=⟨124,[.p,.p],[.val Y29,.val Y2],[⟨Y29,[none,none,none,none,none,none,none,none,none,none,none,none,none,none,none,none],none⟩,⟨Y2,[none],none⟩,⟨(.int .i64),[none],none⟩],F_r11_Roots⟩
theorem S_r11_Roots:Snd E_r11_Roots:=ent_ok te_ok mix_ok (sc S_r10_Forward sn) (fn:=Tryz.f124) (by kernel_rfl) (by kernel_rfl) (F:=F_r11_Roots) rfl
noncomputable def F_r10_Get (d:Pden [.val Y29,.val (.int .u64)]):Option (Rden [⟨Y16,[none,none,none],none⟩] × Oden [.val Y29,.val (.int .u64)]):=FT [E_r02_Load.ent,E_r03_Decode.ent] [] 23 Tryz.f141 [.p,.p] [.val Y29,.val (.int .u64)] [⟨Y16,[none,none,none],none⟩] d
noncomputable def E_r10_Get:Entry:=⟨141,[.p,.p],[.val Y29,.val (.int .u64)],[⟨Y16,[none,none,none],none⟩],F_r10_Get⟩
theorem S_r10_Get:Snd E_r10_Get:=ent_ok te_ok mix_ok (sc S_r02_Load (sc S_r03_Decode sn)) (fn:=Tryz.f141) (by kernel_rfl) (by kernel_rfl) (F:=F_r10_Get) rfl
noncomputable def F_r03_Pointers (d:Pden [.val Y16]):Option (Rden [⟨Y9,[some 3],none⟩] × Oden [.val Y16]):=FT [E_r03_Valid.ent,E_r03_Pointer.ent] [⟨0,[],⟨[3,4],[.own 0,.val (.int .i64)],[.arr 3 (.int .i64)],[],[]⟩,[(.exit 0,⟨[3],[.own 0],[.arr 3 (.int .i64)],[],[]⟩)]⟩] 23 Tryz.f149 [.p] [.val Y16] [⟨Y9,[some 3],none⟩] d
noncomputable def E_r03_Pointers:Entry:=⟨149,[.p],[.val Y16],[⟨Y9,[some 3],none⟩],F_r03_Pointers⟩
theorem S_r03_Pointers:Snd E_r03_Pointers:=ent_ok te_ok mix_ok (sc S_r03_Valid (sc S_r03_Pointer sn)) (fn:=Tryz.f149) (by kernel_rfl) (by kernel_rfl) (F:=F_r03_Pointers) rfl
noncomputable def F_r11_Step (d:Pden [.val Y29]):Option (Rden [⟨Y29,[none,none,none,none,none,none,none,none,none,none,none,none,none,none,none,none],none⟩,⟨.bool,[none],none⟩,⟨(.int .i64),[none],none⟩] × Oden [.val Y29]):=FT [E_r10_Get.ent,E_r03_Pointers.ent,E_r02_Load.ent,E_r10_Forward.ent,E_r02_Store.ent] [⟨0,[],⟨[3,4,7],[.val .bool,.val (.int .i64),.val (.int .i64)],[],[1,65],[.box 145 [.val (.int .i64),.val (.int .i64),.val Y2,.val Y5,.val (.int .i64),.val (.int .i64),.val Y2,.val Y9,.val Y2,.val (.int .i64),.val (.int .i64),.val (.int .i64),.val (.int .i64),.val (.int .i64),.val (.int .i64),.val (.int .i64)],.box 145 [.val (.int .i64),.val (.int .i64),.val Y2,.val Y5,.val (.int .i64),.val (.int .i64),.val Y2,.val Y9,.val Y2,.val (.int .i64),.val (.int .i64),.val (.int .i64),.val (.int .i64),.val (.int .i64),.val (.int .i64),.val (.int .i64)]]⟩,[(.ret,⟨[3,4],[.val .bool,.val (.int .i64)],[],[1,65],[.box 145 [.val (.int .i64),.val (.int .i64),.val Y2,.val Y5,.val (.int .i64),.val (.int .i64),.val Y2,.val Y9,.val Y2,.val (.int .i64),.val (.int .i64),.val (.int .i64),.val (.int .i64),.val (.int .i64),.val (.int .i64),.val (.int .i64)],.box 145 [.val (.int .i64),.val (.int .i64),.val Y2,.val Y5,.val (.int .i64),.val (.int .i64),.val Y2,.val Y9,.val Y2,.val (.int .i64),.val (.int .i64),.val (.int .i64),.val (.int .i64),.val (.int .i64),.val (.int .i64),.val (.int .i64)]]⟩),(.exit 0,⟨[3,4],[.val .bool,.val (.int .i64)],[],[1,65],[.box 145 [.val (.int .i64),.val (.int .i64),.val Y2,.val Y5,.val (.int .i64),.val (.int .i64),.val Y2,.val Y9,.val Y2,.val (.int .i64),.val (.int .i64),.val (.int .i64),.val (.int .i64),.val (.int .i64),.val (.int .i64),.val (.int .i64)],.box 145 [.val (.int .i64),.val (.int .i64),.val Y2,.val Y5,.val (.int .i64),.val (.int .i64),.val Y2,.val Y9,.val Y2,.val (.int .i64),.val (.int .i64),.val (.int .i64),.val (.int .i64),.val (.int .i64),.val (.int .i64),.val (.int .i64)]]⟩)]⟩] 90 Tryz.f138 [.p] [.val Y29] [⟨Y29,[none,none,none,none,none,none,none,none,none,none,none,none,none,none,none,none],none⟩,⟨.bool,[none],none⟩,⟨(.int .i64),[none],none⟩] d
noncomputable def E_r11_Step:Entry:=⟨138,[.p],[.val Y29],[⟨Y29,[none,none,none,none,none,none,none,none,none,none,none,none,none,none,none,none],none⟩,⟨.bool,[none],none⟩,⟨(.int .i64),[none],none⟩],F_r11_Step⟩
theorem S_r11_Step:Snd E_r11_Step:=ent_ok te_ok mix_ok (sc S_r10_Get (sc S_r03_Pointers (sc S_r02_Load (sc S_r10_Forward (sc S_r02_Store sn))))) (fn:=Tryz.f138) (by kernel_rfl) (by kernel_rfl) (F:=F_r11_Step) rfl
noncomputable def F_r11_All (d:Pden [.val Y29]):Option (Rden [⟨Y29,[none,none,none,none,none,none,none,none,none,none,none,none,none,none,none,none],none⟩,⟨(.int .i64),[none],none⟩] × Oden [.val Y29]):=FT [E_r11_Step.ent] [⟨0,[],⟨[3],[.val (.int .i64)],[],[1,65],[.box 145 [.val (.int .i64),.val (.int .i64),.val Y2,.val Y5,.val (.int .i64),.val (.int .i64),.val Y2,.val Y9,.val Y2,.val (.int .i64),.val (.int .i64),.val (.int .i64),.val (.int .i64),.val (.int .i64),.val (.int .i64),.val (.int .i64)],.box 145 [.val (.int .i64),.val (.int .i64),.val Y2,.val Y5,.val (.int .i64),.val (.int .i64),.val Y2,.val Y9,.val Y2,.val (.int .i64),.val (.int .i64),.val (.int .i64),.val (.int .i64),.val (.int .i64),.val (.int .i64),.val (.int .i64)]]⟩,[(.ret,⟨[3],[.val (.int .i64)],[],[1,65],[.box 145 [.val (.int .i64),.val (.int .i64),.val Y2,.val Y5,.val (.int .i64),.val (.int .i64),.val Y2,.val Y9,.val Y2,.val (.int .i64),.val (.int .i64),.val (.int .i64),.val (.int .i64),.val (.int .i64),.val (.int .i64),.val (.int .i64)],.box 145 [.val (.int .i64),.val (.int .i64),.val Y2,.val Y5,.val (.int .i64),.val (.int .i64),.val Y2,.val Y9,.val Y2,.val (.int .i64),.val (.int .i64),.val (.int .i64),.val (.int .i64),.val (.int .i64),.val (.int .i64),.val (.int .i64)]]⟩)]⟩] 21 Tryz.f125 [.p] [.val Y29] [⟨Y29,[none,none,none,none,none,none,none,none,none,none,none,none,none,none,none,none],none⟩,⟨(.int .i64),[none],none⟩] d
noncomputable def E_r11_All:Entry:=⟨125,[.p],[.val Y29],[⟨Y29,[none,none,none,none,none,none,none,none,none,none,none,none,none,none,none,none],none⟩,⟨(.int .i64),[none],none⟩],F_r11_All⟩
theorem S_r11_All:Snd E_r11_All:=ent_ok te_ok mix_ok (sc S_r11_Step sn) (fn:=Tryz.f125) (by kernel_rfl) (by kernel_rfl) (F:=F_r11_All) rfl
noncomputable def F_r12_after (d:Pden [.val Y29,.val (.int .u64)]):Option (Rden [⟨(.int .u64),[none],none⟩] × Oden [.val Y29,.val (.int .u64)]):=FT [E_r06_Has.ent,E_r02_Load.ent,E_r03_Target.ent] [] 28 Tryz.f126 [.p,.p] [.val Y29,.val (.int .u64)] [⟨(.int .u64),[none],none⟩] d
noncomputable def E_r12_after:Entry:=⟨126,[.p,.p],[.val Y29,.val (.int .u64)],[⟨(.int .u64),[none],none⟩],F_r12_after⟩
theorem S_r12_after:Snd E_r12_after:=ent_ok te_ok mix_ok (sc S_r06_Has (sc S_r02_Load (sc S_r03_Target sn))) (fn:=Tryz.f126) (by kernel_rfl) (by kernel_rfl) (F:=F_r12_after) rfl
noncomputable def F_r12_fill (d:Pden [.val Y29]):Option (Rden [⟨Y29,[none,none,none,none,none,none,none,none,none,none,none,none,none,none,none,none],none⟩] × Oden [.val Y29]):=FT [E_r04_Of.ent,E_r10_Promoted.ent,E_r06_Has.ent,E_r10_Get.ent,E_r03_Encode.ent,E_r02_Write.ent] [⟨0,[],⟨[3],[.val (.int .i64)],[],[1],[.box 145 [.val (.int .i64),.val (.int .i64),.val Y2,.val Y5,.val (.int .i64),.val (.int .i64),.val Y2,.val Y9,.val Y2,.val (.int .i64),.val (.int .i64),.val (.int .i64),.val (.int .i64),.val (.int .i64),.val (.int .i64),.val (.int .i64)]]⟩,[(.exit 0,⟨[],[],[],[1],[.box 145 [.val (.int .i64),.val (.int .i64),.val Y2,.val Y5,.val (.int .i64),.val (.int .i64),.val Y2,.val Y9,.val Y2,.val (.int .i64),.val (.int .i64),.val (.int .i64),.val (.int .i64),.val (.int .i64),.val (.int .i64),.val (.int .i64)]]⟩)]⟩] 84 Tryz.f128 [.p] [.val Y29] [⟨Y29,[none,none,none,none,none,none,none,none,none,none,none,none,none,none,none,none],none⟩] d
noncomputable def E_r12_fill:Entry:=⟨128,[.p],[.val Y29],[⟨Y29,[none,none,none,none,none,none,none,none,none,none,none,none,none,none,none,none],none⟩],F_r12_fill⟩
theorem S_r12_fill:Snd E_r12_fill:=ent_ok te_ok mix_ok (sc S_r04_Of (sc S_r10_Promoted (sc S_r06_Has (sc S_r10_Get (sc S_r03_Encode (sc S_r02_Write sn)))))) (fn:=Tryz.f128) (by kernel_rfl) (by kernel_rfl) (F:=F_r12_fill) rfl
noncomputable def F_r12_free (d:Pden [.val Y29]):Option (Rden [⟨Y29,[none,none,some 48,some 76,none,none,none,none,none,none,none,none,none,none,none,none],none⟩] × Oden [.val Y29]):=FT [] [⟨2,[],⟨[5],[.val (.int .i64)],[],[1217],[.arr 48 (.int .u64)]⟩,[(.exit 2,⟨[],[],[],[1217],[.arr 48 (.int .u64)]⟩)]⟩,⟨0,[.b 385,.b 897],⟨[3],[.val (.int .i64)],[.arr 48 (.int .u64),.arr 76 Y4],[1],[.box 145 [.val (.int .i64),.val (.int .i64),.own 0,.own 1,.val (.int .i64),.val (.int .i64),.val Y2,.val Y9,.val Y2,.val (.int .i64),.val (.int .i64),.val (.int .i64),.val (.int .i64),.val (.int .i64),.val (.int .i64),.val (.int .i64)]]⟩,[(.exit 0,⟨[],[],[.arr 48 (.int .u64),.arr 76 Y4],[1],[.box 145 [.val (.int .i64),.val (.int .i64),.own 0,.own 1,.val (.int .i64),.val (.int .i64),.val Y2,.val Y9,.val Y2,.val (.int .i64),.val (.int .i64),.val (.int .i64),.val (.int .i64),.val (.int .i64),.val (.int .i64),.val (.int .i64)]]⟩)]⟩] 78 Tryz.f127 [.p] [.val Y29] [⟨Y29,[none,none,some 48,some 76,none,none,none,none,none,none,none,none,none,none,none,none],none⟩] d
noncomputable def E_r12_free:Entry:=⟨127,[.p],[.val Y29],[⟨Y29,[none,none,some 48,some 76,none,none,none,none,none,none,none,none,none,none,none,none],none⟩],F_r12_free⟩
theorem S_r12_free:Snd E_r12_free:=ent_ok te_ok mix_ok sn (fn:=Tryz.f127) (by kernel_rfl) (by kernel_rfl) (F:=F_r12_free) rfl
noncomputable def F_r12_Collect (d:Pden [.val Y8,.val Y2,.val Y2]):Option (Rden [⟨Y8,[none,none,some 48,some 76,none,none],none⟩,⟨Y2,[none],none⟩,⟨Y2,[some 48],none⟩,⟨Y23,[none,none,none,none,none,none],none⟩,⟨(.int .i64),[none],none⟩] × Oden [.val Y8,.val Y2,.val Y2]):=FT [E_r04_Proper.ent,E_r09_Refers.ent,E_r10_Begin.ent,E_r11_Roots.ent,E_r11_All.ent,E_r12_after.ent,E_r12_fill.ent,E_r12_free.ent] [⟨0,[],⟨[15,16],[.own 0,.val (.int .i64)],[.arr 48 (.int .u64)],[2435],[.box 145 [.val (.int .i64),.val (.int .i64),.val Y2,.val Y5,.val (.int .i64),.val (.int .i64),.val Y2,.val Y9,.val Y2,.val (.int .i64),.val (.int .i64),.val (.int .i64),.val (.int .i64),.val (.int .i64),.val (.int .i64),.val (.int .i64)]]⟩,[(.exit 0,⟨[15],[.own 0],[.arr 48 (.int .u64)],[2435],[.box 145 [.val (.int .i64),.val (.int .i64),.val Y2,.val Y5,.val (.int .i64),.val (.int .i64),.val Y2,.val Y9,.val Y2,.val (.int .i64),.val (.int .i64),.val (.int .i64),.val (.int .i64),.val (.int .i64),.val (.int .i64),.val (.int .i64)]]⟩)]⟩] 122 Tryz.f108 [.p,.p,.p] [.val Y8,.val Y2,.val Y2] [⟨Y8,[none,none,some 48,some 76,none,none],none⟩,⟨Y2,[none],none⟩,⟨Y2,[some 48],none⟩,⟨Y23,[none,none,none,none,none,none],none⟩,⟨(.int .i64),[none],none⟩] d
noncomputable def E_r12_Collect:Entry:=⟨108,[.p,.p,.p],[.val Y8,.val Y2,.val Y2],[⟨Y8,[none,none,some 48,some 76,none,none],none⟩,⟨Y2,[none],none⟩,⟨Y2,[some 48],none⟩,⟨Y23,[none,none,none,none,none,none],none⟩,⟨(.int .i64),[none],none⟩],F_r12_Collect⟩
theorem S_r12_Collect:Snd E_r12_Collect:=ent_ok te_ok mix_ok (sc S_r04_Proper (sc S_r09_Refers (sc S_r10_Begin (sc S_r11_Roots (sc S_r11_All (sc S_r12_after (sc S_r12_fill (sc S_r12_free sn)))))))) (fn:=Tryz.f108) (by kernel_rfl) (by kernel_rfl) (F:=F_r12_Collect) rfl
noncomputable def F_made_World_Collect (d:Pden [.val Y13]):Option (Rden [⟨Y13,[none,none,none,none,none,none,none,none],none⟩] × Oden [.val Y13]):=FT [E_r12_Collect.ent] [] 28 Tryz.f87 [.p] [.val Y13] [⟨Y13,[none,none,none,none,none,none,none,none],none⟩] d
noncomputable def E_made_World_Collect:Entry:=⟨87,[.p],[.val Y13],[⟨Y13,[none,none,none,none,none,none,none,none],none⟩],F_made_World_Collect⟩
theorem S_made_World_Collect:Snd E_made_World_Collect:=ent_ok te_ok mix_ok (sc S_r12_Collect sn) (fn:=Tryz.f87) (by kernel_rfl) (by kernel_rfl) (F:=F_made_World_Collect) rfl
noncomputable def F_made_World_Step (d:Pden [.val Y13,.ptr 36 Y10]):Option (Rden [⟨Y13,[none,none,none,none,none,none,none,none],none⟩] × Oden [.val Y13,.ptr 36 Y10]):=FT [E_made_Tape_Next.ent,E_made_Tape_Header.ent,E_made_World_Put.ent,E_made_World_Link.ent,E_made_World_Pin.ent,E_made_World_Drop.ent,E_made_World_Collect.ent,E_made_World_pick.ent] [] 52 Tryz.f43 [.p,.p] [.val Y13,.ptr 36 Y10] [⟨Y13,[none,none,none,none,none,none,none,none],none⟩] d
noncomputable def E_made_World_Step:Entry:=⟨43,[.p,.p],[.val Y13,.ptr 36 Y10],[⟨Y13,[none,none,none,none,none,none,none,none],none⟩],F_made_World_Step⟩
theorem S_made_World_Step:Snd E_made_World_Step:=ent_ok te_ok mix_ok (sc S_made_Tape_Next (sc S_made_Tape_Header (sc S_made_World_Put (sc S_made_World_Link (sc S_made_World_Pin (sc S_made_World_Drop (sc S_made_World_Collect (sc S_made_World_pick sn)))))))) (fn:=Tryz.f43) (by kernel_rfl) (by kernel_rfl) (F:=F_made_World_Step) rfl
noncomputable def F_made_Make (d:Pden [.val Y9]):Option (Rden [⟨Y13,[none,none,none,none,none,none,none,none],none⟩] × Oden [.val Y9]):=FT [E_made_Tape_Empty.ent,E_made_Tape_Done.ent,E_made_World_Step.ent] [⟨0,[.b 769,.b 770],⟨[14],[.val Y13],[],[577,833],[.box 36 [.val Y9,.val (.int .i64)],.box 31 [.val (.int .i64),.val (.int .i64),.val Y2,.val Y5,.val (.int .i64),.val (.int .i64),.val Y2,.val Y2]]⟩,[(.exit 0,⟨[14],[.val Y13],[],[577,833],[.box 36 [.val Y9,.val (.int .i64)],.box 31 [.val (.int .i64),.val (.int .i64),.val Y2,.val Y5,.val (.int .i64),.val (.int .i64),.val Y2,.val Y2]]⟩)]⟩] 22 Tryz.f10 [.p] [.val Y9] [⟨Y13,[none,none,none,none,none,none,none,none],none⟩] d
noncomputable def E_made_Make:Entry:=⟨10,[.p],[.val Y9],[⟨Y13,[none,none,none,none,none,none,none,none],none⟩],F_made_Make⟩
theorem S_made_Make:Snd E_made_Make:=ent_ok te_ok mix_ok (sc S_made_Tape_Empty (sc S_made_Tape_Done (sc S_made_World_Step sn))) (fn:=Tryz.f10) (by kernel_rfl) (by kernel_rfl) (F:=F_made_Make) rfl
noncomputable def F_made_World_Spoil (d:Pden [.val Y13,.ptr 36 Y10]):Option (Rden [⟨Y13,[none,none,some 48,none,none,none,none,none],none⟩] × Oden [.val Y13,.ptr 36 Y10]):=FT [E_made_Tape_Next.ent] [⟨1,[],⟨[8],[.val (.int .i64)],[],[834],[.arr 76 Y4]⟩,[(.exit 1,⟨[],[],[],[834],[.arr 76 Y4]⟩)]⟩] 156 Tryz.f11 [.p,.p] [.val Y13,.ptr 36 Y10] [⟨Y13,[none,none,some 48,none,none,none,none,none],none⟩] d
noncomputable def E_made_World_Spoil:Entry:=⟨11,[.p,.p],[.val Y13,.ptr 36 Y10],[⟨Y13,[none,none,some 48,none,none,none,none,none],none⟩],F_made_World_Spoil⟩
theorem S_made_World_Spoil:Snd E_made_World_Spoil:=ent_ok te_ok mix_ok (sc S_made_Tape_Next sn) (fn:=Tryz.f11) (by kernel_rfl) (by kernel_rfl) (F:=F_made_World_Spoil) rfl
noncomputable def F_l04_conf (d:Pden []):Option (Rden [⟨Y1,[none,none],none⟩] × Oden []):=FT [] [] 2 Tryz.f46 [] [] [⟨Y1,[none,none],none⟩] d
noncomputable def E_l04_conf:Entry:=⟨46,[],[],[⟨Y1,[none,none],none⟩],F_l04_conf⟩
theorem S_l04_conf:Snd E_l04_conf:=ent_ok te_ok mix_ok sn (fn:=Tryz.f46) (by kernel_rfl) (by kernel_rfl) (F:=F_l04_conf) rfl
noncomputable def F_page_within (d:Pden [.val (.int .i64),.val (.int .i64),.val (.int .i64)]):Option (Rden [⟨.bool,[none],none⟩] × Oden [.val (.int .i64),.val (.int .i64),.val (.int .i64)]):=FT [] [] 15 Tryz.f57 [.p,.p,.p] [.val (.int .i64),.val (.int .i64),.val (.int .i64)] [⟨.bool,[none],none⟩] d
noncomputable def E_page_within:Entry:=⟨57,[.p,.p,.p],[.val (.int .i64),.val (.int .i64),.val (.int .i64)],[⟨.bool,[none],none⟩],F_page_within⟩
theorem S_page_within:Snd E_page_within:=ent_ok te_ok mix_ok sn (fn:=Tryz.f57) (by kernel_rfl) (by kernel_rfl) (F:=F_page_within) rfl
noncomputable def F_page_ValidConf (d:Pden [.val Y1]):Option (Rden [⟨.bool,[none],none⟩] × Oden [.val Y1]):=FT [E_page_within.ent] [] 17 Tryz.f49 [.p] [.val Y1] [⟨.bool,[none],none⟩] d
noncomputable def E_page_ValidConf:Entry:=⟨49,[.p],[.val Y1],[⟨.bool,[none],none⟩],F_page_ValidConf⟩
theorem S_page_ValidConf:Snd E_page_ValidConf:=ent_ok te_ok mix_ok (sc S_page_within sn) (fn:=Tryz.f49) (by kernel_rfl) (by kernel_rfl) (F:=F_page_ValidConf) rfl
noncomputable def F_page_size (d:Pden [.val Y1]):Option (Rden [⟨(.int .i64),[none],none⟩] × Oden [.val Y1]):=FT [] [] 8 Tryz.f50 [.p] [.val Y1] [⟨(.int .i64),[none],none⟩] d
noncomputable def E_page_size:Entry:=⟨50,[.p],[.val Y1],[⟨(.int .i64),[none],none⟩],F_page_size⟩
theorem S_page_size:Snd E_page_size:=ent_ok te_ok mix_ok sn (fn:=Tryz.f50) (by kernel_rfl) (by kernel_rfl) (F:=F_page_size) rfl
noncomputable def F_arena_New (d:Pden [.val (.int .i64)]):Option (Rden [⟨Y2,[some 48],none⟩,⟨(.int .i64),[none],none⟩] × Oden [.val (.int .i64)]):=FT [] [] 12 Tryz.f89 [.p] [.val (.int .i64)] [⟨Y2,[some 48],none⟩,⟨(.int .i64),[none],none⟩] d
noncomputable def E_arena_New:Entry:=⟨89,[.p],[.val (.int .i64)],[⟨Y2,[some 48],none⟩,⟨(.int .i64),[none],none⟩],F_arena_New⟩
theorem S_arena_New:Snd E_arena_New:=ent_ok te_ok mix_ok sn (fn:=Tryz.f89) (by kernel_rfl) (by kernel_rfl) (F:=F_arena_New) rfl
noncomputable def F_page_New (d:Pden [.val Y1]):Option (Rden [⟨Y8,[none,none,some 48,some 76,none,none],none⟩,⟨(.int .i64),[none],none⟩] × Oden [.val Y1]):=FT [E_page_ValidConf.ent,E_page_size.ent,E_arena_New.ent] [] 26 Tryz.f45 [.p] [.val Y1] [⟨Y8,[none,none,some 48,some 76,none,none],none⟩,⟨(.int .i64),[none],none⟩] d
noncomputable def E_page_New:Entry:=⟨45,[.p],[.val Y1],[⟨Y8,[none,none,some 48,some 76,none,none],none⟩,⟨(.int .i64),[none],none⟩],F_page_New⟩
theorem S_page_New:Snd E_page_New:=ent_ok te_ok mix_ok (sc S_page_ValidConf (sc S_page_size (sc S_arena_New sn))) (fn:=Tryz.f45) (by kernel_rfl) (by kernel_rfl) (F:=F_page_New) rfl
noncomputable def F_page_Address (d:Pden [.val Y1,.val (.int .i64),.val (.int .i64)]):Option (Rden [⟨(.int .u64),[none],none⟩,⟨(.int .i64),[none],none⟩] × Oden [.val Y1,.val (.int .i64),.val (.int .i64)]):=FT [E_page_ValidConf.ent,E_page_within.ent] [] 33 Tryz.f47 [.p,.p,.p] [.val Y1,.val (.int .i64),.val (.int .i64)] [⟨(.int .u64),[none],none⟩,⟨(.int .i64),[none],none⟩] d
noncomputable def E_page_Address:Entry:=⟨47,[.p,.p,.p],[.val Y1,.val (.int .i64),.val (.int .i64)],[⟨(.int .u64),[none],none⟩,⟨(.int .i64),[none],none⟩],F_page_Address⟩
theorem S_page_Address:Snd E_page_Address:=ent_ok te_ok mix_ok (sc S_page_ValidConf (sc S_page_within sn)) (fn:=Tryz.f47) (by kernel_rfl) (by kernel_rfl) (F:=F_page_Address) rfl
noncomputable def F_page_isSpace (d:Pden [.val (.int .i64)]):Option (Rden [⟨.bool,[none],none⟩] × Oden [.val (.int .i64)]):=FT [] [] 9 Tryz.f51 [.p] [.val (.int .i64)] [⟨.bool,[none],none⟩] d
noncomputable def E_page_isSpace:Entry:=⟨51,[.p],[.val (.int .i64)],[⟨.bool,[none],none⟩],F_page_isSpace⟩
theorem S_page_isSpace:Snd E_page_isSpace:=ent_ok te_ok mix_ok sn (fn:=Tryz.f51) (by kernel_rfl) (by kernel_rfl) (F:=F_page_isSpace) rfl
noncomputable def F_page_isSmall (d:Pden [.val Y5,.val (.int .i64)]):Option (Rden [⟨.bool,[none],none⟩] × Oden [.val Y5,.val (.int .i64)]):=FT [E_page_within.ent] [] 18 Tryz.f52 [.p,.p] [.val Y5,.val (.int .i64)] [⟨.bool,[none],none⟩] d
noncomputable def E_page_isSmall:Entry:=⟨52,[.p,.p],[.val Y5,.val (.int .i64)],[⟨.bool,[none],none⟩],F_page_isSmall⟩
theorem S_page_isSmall:Snd E_page_isSmall:=ent_ok te_ok mix_ok (sc S_page_within sn) (fn:=Tryz.f52) (by kernel_rfl) (by kernel_rfl) (F:=F_page_isSmall) rfl
noncomputable def F_page_table_free (d:Pden [.val Y31,.val (.int .i64)]):Option (Rden [⟨.bool,[none],none⟩] × Oden [.val Y31,.val (.int .i64)]):=FT [] [] 12 Tryz.f90 [.p,.p] [.val Y31,.val (.int .i64)] [⟨.bool,[none],none⟩] d
noncomputable def E_page_table_free:Entry:=⟨90,[.p,.p],[.val Y31,.val (.int .i64)],[⟨.bool,[none],none⟩],F_page_table_free⟩
theorem S_page_table_free:Snd E_page_table_free:=ent_ok te_ok mix_ok sn (fn:=Tryz.f90) (by kernel_rfl) (by kernel_rfl) (F:=F_page_table_free) rfl
noncomputable def F_page_isPins (d:Pden [.val (.int .i64)]):Option (Rden [⟨.bool,[none],none⟩] × Oden [.val (.int .i64)]):=FT [E_page_within.ent] [] 5 Tryz.f109 [.p] [.val (.int .i64)] [⟨.bool,[none],none⟩] d
noncomputable def E_page_isPins:Entry:=⟨109,[.p],[.val (.int .i64)],[⟨.bool,[none],none⟩],F_page_isPins⟩
theorem S_page_isPins:Snd E_page_isPins:=ent_ok te_ok mix_ok (sc S_page_within sn) (fn:=Tryz.f109) (by kernel_rfl) (by kernel_rfl) (F:=F_page_isPins) rfl
noncomputable def F_page_table_small (d:Pden [.val Y31,.val (.int .i64)]):Option (Rden [⟨.bool,[none],none⟩] × Oden [.val Y31,.val (.int .i64)]):=FT [E_page_isSpace.ent,E_page_within.ent,E_page_isPins.ent] [] 27 Tryz.f91 [.p,.p] [.val Y31,.val (.int .i64)] [⟨.bool,[none],none⟩] d
noncomputable def E_page_table_small:Entry:=⟨91,[.p,.p],[.val Y31,.val (.int .i64)],[⟨.bool,[none],none⟩],F_page_table_small⟩
theorem S_page_table_small:Snd E_page_table_small:=ent_ok te_ok mix_ok (sc S_page_isSpace (sc S_page_within (sc S_page_isPins sn))) (fn:=Tryz.f91) (by kernel_rfl) (by kernel_rfl) (F:=F_page_table_small) rfl
noncomputable def F_page_SmallWords (d:Pden [.val Y1]):Option (Rden [⟨(.int .i64),[none],none⟩] × Oden [.val Y1]):=FT [E_page_ValidConf.ent] [] 9 Tryz.f58 [.p] [.val Y1] [⟨(.int .i64),[none],none⟩] d
noncomputable def E_page_SmallWords:Entry:=⟨58,[.p],[.val Y1],[⟨(.int .i64),[none],none⟩],F_page_SmallWords⟩
theorem S_page_SmallWords:Snd E_page_SmallWords:=ent_ok te_ok mix_ok (sc S_page_ValidConf sn) (fn:=Tryz.f58) (by kernel_rfl) (by kernel_rfl) (F:=F_page_SmallWords) rfl
noncomputable def F_page_Need (d:Pden [.val Y1,.val (.int .i64)]):Option (Rden [⟨(.int .i64),[none],none⟩] × Oden [.val Y1,.val (.int .i64)]):=FT [E_page_ValidConf.ent,E_page_within.ent,E_page_SmallWords.ent] [] 28 Tryz.f15 [.p,.p] [.val Y1,.val (.int .i64)] [⟨(.int .i64),[none],none⟩] d
noncomputable def E_page_Need:Entry:=⟨15,[.p,.p],[.val Y1,.val (.int .i64)],[⟨(.int .i64),[none],none⟩],F_page_Need⟩
theorem S_page_Need:Snd E_page_Need:=ent_ok te_ok mix_ok (sc S_page_ValidConf (sc S_page_within (sc S_page_SmallWords sn))) (fn:=Tryz.f15) (by kernel_rfl) (by kernel_rfl) (F:=F_page_Need) rfl
noncomputable def F_page_table_large (d:Pden [.val Y31,.val (.int .i64)]):Option (Rden [⟨.bool,[none],none⟩] × Oden [.val Y31,.val (.int .i64)]):=FT [E_page_Need.ent,E_page_isSpace.ent,E_page_isPins.ent] [⟨0,[],⟨[4,51],[.val .bool,.val (.int .i64)],[],[],[]⟩,[(.ret,⟨[4],[.val .bool],[],[],[]⟩),(.exit 0,⟨[4],[.val .bool],[],[],[]⟩)]⟩] 66 Tryz.f92 [.p,.p] [.val Y31,.val (.int .i64)] [⟨.bool,[none],none⟩] d
noncomputable def E_page_table_large:Entry:=⟨92,[.p,.p],[.val Y31,.val (.int .i64)],[⟨.bool,[none],none⟩],F_page_table_large⟩
theorem S_page_table_large:Snd E_page_table_large:=ent_ok te_ok mix_ok (sc S_page_Need (sc S_page_isSpace (sc S_page_isPins sn))) (fn:=Tryz.f92) (by kernel_rfl) (by kernel_rfl) (F:=F_page_table_large) rfl
noncomputable def F_page_table_owned (d:Pden [.val Y31,.val (.int .i64)]):Option (Rden [⟨.bool,[none],none⟩] × Oden [.val Y31,.val (.int .i64)]):=FT [E_page_Need.ent] [⟨0,[],⟨[4,5],[.val .bool,.val (.int .i64)],[],[],[]⟩,[(.ret,⟨[4],[.val .bool],[],[],[]⟩),(.exit 0,⟨[4],[.val .bool],[],[],[]⟩)]⟩] 29 Tryz.f110 [.p,.p] [.val Y31,.val (.int .i64)] [⟨.bool,[none],none⟩] d
noncomputable def E_page_table_owned:Entry:=⟨110,[.p,.p],[.val Y31,.val (.int .i64)],[⟨.bool,[none],none⟩],F_page_table_owned⟩
theorem S_page_table_owned:Snd E_page_table_owned:=ent_ok te_ok mix_ok (sc S_page_Need sn) (fn:=Tryz.f110) (by kernel_rfl) (by kernel_rfl) (F:=F_page_table_owned) rfl
noncomputable def F_page_table_tail (d:Pden [.val Y31,.val (.int .i64)]):Option (Rden [⟨.bool,[none],none⟩] × Oden [.val Y31,.val (.int .i64)]):=FT [E_page_table_owned.ent] [] 24 Tryz.f93 [.p,.p] [.val Y31,.val (.int .i64)] [⟨.bool,[none],none⟩] d
noncomputable def E_page_table_tail:Entry:=⟨93,[.p,.p],[.val Y31,.val (.int .i64)],[⟨.bool,[none],none⟩],F_page_table_tail⟩
theorem S_page_table_tail:Snd E_page_table_tail:=ent_ok te_ok mix_ok (sc S_page_table_owned sn) (fn:=Tryz.f93) (by kernel_rfl) (by kernel_rfl) (F:=F_page_table_tail) rfl
noncomputable def F_page_table_proper (d:Pden [.val Y31]):Option (Rden [⟨.bool,[none],none⟩] × Oden [.val Y31]):=FT [E_page_within.ent,E_page_table_free.ent,E_page_table_small.ent,E_page_table_large.ent,E_page_table_tail.ent] [⟨0,[],⟨[2,10],[.val .bool,.val (.int .i64)],[],[],[]⟩,[(.ret,⟨[2],[.val .bool],[],[],[]⟩),(.exit 0,⟨[2],[.val .bool],[],[],[]⟩)]⟩] 30 Tryz.f53 [.p] [.val Y31] [⟨.bool,[none],none⟩] d
noncomputable def E_page_table_proper:Entry:=⟨53,[.p],[.val Y31],[⟨.bool,[none],none⟩],F_page_table_proper⟩
theorem S_page_table_proper:Snd E_page_table_proper:=ent_ok te_ok mix_ok (sc S_page_within (sc S_page_table_free (sc S_page_table_small (sc S_page_table_large (sc S_page_table_tail sn))))) (fn:=Tryz.f53) (by kernel_rfl) (by kernel_rfl) (F:=F_page_table_proper) rfl
noncomputable def F_page_Proper (d:Pden [.val Y8]):Option (Rden [⟨.bool,[none],none⟩] × Oden [.val Y8]):=FT [E_page_ValidConf.ent,E_page_size.ent,E_page_isSpace.ent,E_page_isSmall.ent,E_page_table_proper.ent] [] 48 Tryz.f13 [.p] [.val Y8] [⟨.bool,[none],none⟩] d
noncomputable def E_page_Proper:Entry:=⟨13,[.p],[.val Y8],[⟨.bool,[none],none⟩],F_page_Proper⟩
theorem S_page_Proper:Snd E_page_Proper:=ent_ok te_ok mix_ok (sc S_page_ValidConf (sc S_page_size (sc S_page_isSpace (sc S_page_isSmall (sc S_page_table_proper sn))))) (fn:=Tryz.f13) (by kernel_rfl) (by kernel_rfl) (F:=F_page_Proper) rfl
noncomputable def F_page_Limit (d:Pden [.val Y1]):Option (Rden [⟨(.int .i64),[none],none⟩] × Oden [.val Y1]):=FT [E_page_ValidConf.ent] [] 9 Tryz.f48 [.p] [.val Y1] [⟨(.int .i64),[none],none⟩] d
noncomputable def E_page_Limit:Entry:=⟨48,[.p],[.val Y1],[⟨(.int .i64),[none],none⟩],F_page_Limit⟩
theorem S_page_Limit:Snd E_page_Limit:=ent_ok te_ok mix_ok (sc S_page_ValidConf sn) (fn:=Tryz.f48) (by kernel_rfl) (by kernel_rfl) (F:=F_page_Limit) rfl
noncomputable def F_l04_awake (d:Pden []):Option (Rden [⟨.bool,[none],none⟩] × Oden []):=FT [E_l04_conf.ent,E_page_New.ent,E_page_Address.ent,E_page_Proper.ent,E_page_Limit.ent] [] 40 Tryz.f12 [] [] [⟨.bool,[none],none⟩] d
noncomputable def E_l04_awake:Entry:=⟨12,[],[],[⟨.bool,[none],none⟩],F_l04_awake⟩
theorem S_l04_awake:Snd E_l04_awake:=ent_ok te_ok mix_ok (sc S_l04_conf (sc S_page_New (sc S_page_Address (sc S_page_Proper (sc S_page_Limit sn))))) (fn:=Tryz.f12) (by kernel_rfl) (by kernel_rfl) (F:=F_l04_awake) rfl
noncomputable def F_l04_PageProper (d:Pden [.val Y8,.val Y9,.val Y9]):Option (Rden [⟨.bool,[none],none⟩] × Oden [.val Y8,.val Y9,.val Y9]):=FT [E_made_Light.ent,E_made_Make.ent,E_made_World_Spoil.ent,E_l04_awake.ent,E_page_Proper.ent,E_r04_Proper.ent] [] 41 Tryz.f3 [.p,.p,.p] [.val Y8,.val Y9,.val Y9] [⟨.bool,[none],none⟩] d
noncomputable def E_l04_PageProper:Entry:=⟨3,[.p,.p,.p],[.val Y8,.val Y9,.val Y9],[⟨.bool,[none],none⟩],F_l04_PageProper⟩
theorem S_l04_PageProper:Snd E_l04_PageProper:=ent_ok te_ok mix_ok (sc S_made_Light (sc S_made_Make (sc S_made_World_Spoil (sc S_l04_awake (sc S_page_Proper (sc S_r04_Proper sn)))))) (fn:=Tryz.f3) (by kernel_rfl) (by kernel_rfl) (F:=F_l04_PageProper) rfl
noncomputable def F_page_freeFrom (d:Pden [.val Y5,.val (.int .i64)]):Option (Rden [⟨(.int .i64),[none],none⟩] × Oden [.val Y5,.val (.int .i64)]):=FT [] [⟨0,[],⟨[5],[.val (.int .i64)],[],[],[]⟩,[(.exit 0,⟨[5],[.val (.int .i64)],[],[],[]⟩)]⟩] 25 Tryz.f94 [.p,.p] [.val Y5,.val (.int .i64)] [⟨(.int .i64),[none],none⟩] d
noncomputable def E_page_freeFrom:Entry:=⟨94,[.p,.p],[.val Y5,.val (.int .i64)],[⟨(.int .i64),[none],none⟩],F_page_freeFrom⟩
theorem S_page_freeFrom:Snd E_page_freeFrom:=ent_ok te_ok mix_ok sn (fn:=Tryz.f94) (by kernel_rfl) (by kernel_rfl) (F:=F_page_freeFrom) rfl
noncomputable def F_page_Runs (d:Pden [.val Y5]):Option (Rden [⟨Y17,[some 91],none⟩] × Oden [.val Y5]):=FT [E_page_freeFrom.ent] [⟨0,[],⟨[3,4],[.own 0,.val (.int .i64)],[.arr 91 Y1],[],[]⟩,[(.exit 0,⟨[3],[.own 0],[.arr 91 Y1],[],[]⟩)]⟩] 27 Tryz.f59 [.p] [.val Y5] [⟨Y17,[some 91],none⟩] d
noncomputable def E_page_Runs:Entry:=⟨59,[.p],[.val Y5],[⟨Y17,[some 91],none⟩],F_page_Runs⟩
theorem S_page_Runs:Snd E_page_Runs:=ent_ok te_ok mix_ok (sc S_page_freeFrom sn) (fn:=Tryz.f59) (by kernel_rfl) (by kernel_rfl) (F:=F_page_Runs) rfl
noncomputable def F_page_First (d:Pden [.val Y5,.val (.int .i64)]):Option (Rden [⟨(.int .i64),[none],none⟩] × Oden [.val Y5,.val (.int .i64)]):=FT [E_page_Runs.ent] [⟨0,[],⟨[4,12],[.val (.int .i64),.val (.int .i64)],[],[],[]⟩,[(.ret,⟨[4],[.val (.int .i64)],[],[],[]⟩),(.exit 0,⟨[4],[.val (.int .i64)],[],[],[]⟩)]⟩] 23 Tryz.f16 [.p,.p] [.val Y5,.val (.int .i64)] [⟨(.int .i64),[none],none⟩] d
noncomputable def E_page_First:Entry:=⟨16,[.p,.p],[.val Y5,.val (.int .i64)],[⟨(.int .i64),[none],none⟩],F_page_First⟩
theorem S_page_First:Snd E_page_First:=ent_ok te_ok mix_ok (sc S_page_Runs sn) (fn:=Tryz.f16) (by kernel_rfl) (by kernel_rfl) (F:=F_page_First) rfl
noncomputable def F_page_InUse (d:Pden [.val Y5]):Option (Rden [⟨(.int .i64),[none],none⟩] × Oden [.val Y5]):=FT [] [⟨0,[],⟨[3,8],[.val (.int .i64),.val (.int .i64)],[],[],[]⟩,[(.exit 0,⟨[3],[.val (.int .i64)],[],[],[]⟩)]⟩] 19 Tryz.f20 [.p] [.val Y5] [⟨(.int .i64),[none],none⟩] d
noncomputable def E_page_InUse:Entry:=⟨20,[.p],[.val Y5],[⟨(.int .i64),[none],none⟩],F_page_InUse⟩
theorem S_page_InUse:Snd E_page_InUse:=ent_ok te_ok mix_ok sn (fn:=Tryz.f20) (by kernel_rfl) (by kernel_rfl) (F:=F_page_InUse) rfl
noncomputable def F_slices_Clone_api_Page:=cloneF Y4 76 32
noncomputable def E_slices_Clone_api_Page:Entry:=⟨62,[.p],[.val Y5],[⟨Y5,[some 76],none⟩],F_slices_Clone_api_Page⟩
theorem S_slices_Clone_api_Page:Snd E_slices_Clone_api_Page:=clone_ok te_ok mix_ok (fn:=Tryz.f62) (c:=(bodyOf Tryz.f62)) (o1:=((regOps (seqL (seqL (seqR (bodyOf Tryz.f62))))).getD 0 default)) (o2:=((regOps (seqL (seqL (seqR (bodyOf Tryz.f62))))).getD 1 default)) (t:=25) (t':=25) (u:=76) (s:=3) (q:=4) (by kernel_rfl) (by kernel_rfl) (by kernel_rfl) (Nat.le_of_ble_eq_true (by kernel_rfl)) (by kernel_rfl) (by kernel_rfl) (by kernel_rfl) (Nat.le_of_ble_eq_true (by kernel_rfl)) (by kernel_rfl) (fun d=>by kernel_rfl)
noncomputable def F_page_take (d:Pden [.val Y5,.val (.int .i64),.val (.int .i64),.val Y4]):Option (Rden [⟨Y5,[some 76],none⟩,⟨(.int .i64),[none],none⟩] × Oden [.val Y5,.val (.int .i64),.val (.int .i64),.val Y4]):=FT [E_page_within.ent,E_page_InUse.ent,E_slices_Clone_api_Page.ent] [⟨0,[],⟨[11],[.val (.int .i64)],[],[1476],[.arr 76 Y4]⟩,[(.exit 0,⟨[],[],[],[1476],[.arr 76 Y4]⟩)]⟩] 49 Tryz.f61 [.p,.p,.p,.p] [.val Y5,.val (.int .i64),.val (.int .i64),.val Y4] [⟨Y5,[some 76],none⟩,⟨(.int .i64),[none],none⟩] d
noncomputable def E_page_take:Entry:=⟨61,[.p,.p,.p,.p],[.val Y5,.val (.int .i64),.val (.int .i64),.val Y4],[⟨Y5,[some 76],none⟩,⟨(.int .i64),[none],none⟩],F_page_take⟩
theorem S_page_take:Snd E_page_take:=ent_ok te_ok mix_ok (sc S_page_within (sc S_page_InUse (sc S_slices_Clone_api_Page sn))) (fn:=Tryz.f61) (by kernel_rfl) (by kernel_rfl) (F:=F_page_take) rfl
noncomputable def F_page_Large (d:Pden [.val Y1,.val Y5,.val (.int .i64),.val (.int .i64),.val (.int .i64)]):Option (Rden [⟨Y5,[some 76],none⟩,⟨(.int .i64),[none],none⟩] × Oden [.val Y1,.val Y5,.val (.int .i64),.val (.int .i64),.val (.int .i64)]):=FT [E_page_Need.ent,E_page_isSpace.ent,E_page_take.ent] [] 32 Tryz.f18 [.p,.p,.p,.p,.p] [.val Y1,.val Y5,.val (.int .i64),.val (.int .i64),.val (.int .i64)] [⟨Y5,[some 76],none⟩,⟨(.int .i64),[none],none⟩] d
noncomputable def E_page_Large:Entry:=⟨18,[.p,.p,.p,.p,.p],[.val Y1,.val Y5,.val (.int .i64),.val (.int .i64),.val (.int .i64)],[⟨Y5,[some 76],none⟩,⟨(.int .i64),[none],none⟩],F_page_Large⟩
theorem S_page_Large:Snd E_page_Large:=ent_ok te_ok mix_ok (sc S_page_Need (sc S_page_isSpace (sc S_page_take sn))) (fn:=Tryz.f18) (by kernel_rfl) (by kernel_rfl) (F:=F_page_Large) rfl
noncomputable def F_page_Free (d:Pden [.val Y5,.val (.int .i64)]):Option (Rden [⟨Y5,[some 76],none⟩,⟨(.int .i64),[none],none⟩] × Oden [.val Y5,.val (.int .i64)]):=FT [E_page_within.ent,E_slices_Clone_api_Page.ent] [⟨0,[],⟨[8],[.val (.int .i64)],[],[1602],[.arr 76 Y4]⟩,[(.exit 0,⟨[],[],[],[1602],[.arr 76 Y4]⟩)]⟩] 57 Tryz.f19 [.p,.p] [.val Y5,.val (.int .i64)] [⟨Y5,[some 76],none⟩,⟨(.int .i64),[none],none⟩] d
noncomputable def E_page_Free:Entry:=⟨19,[.p,.p],[.val Y5,.val (.int .i64)],[⟨Y5,[some 76],none⟩,⟨(.int .i64),[none],none⟩],F_page_Free⟩
theorem S_page_Free:Snd E_page_Free:=ent_ok te_ok mix_ok (sc S_page_within (sc S_slices_Clone_api_Page sn)) (fn:=Tryz.f19) (by kernel_rfl) (by kernel_rfl) (F:=F_page_Free) rfl
noncomputable def F_r04_SamePages (d:Pden [.val Y5,.val Y5]):Option (Rden [⟨.bool,[none],none⟩] × Oden [.val Y5,.val Y5]):=FT [] [⟨0,[],⟨[4,5],[.val .bool,.val (.int .i64)],[],[],[]⟩,[(.ret,⟨[4],[.val .bool],[],[],[]⟩),(.exit 0,⟨[4],[.val .bool],[],[],[]⟩)]⟩] 26 Tryz.f21 [.p,.p] [.val Y5,.val Y5] [⟨.bool,[none],none⟩] d
noncomputable def E_r04_SamePages:Entry:=⟨21,[.p,.p],[.val Y5,.val Y5],[⟨.bool,[none],none⟩],F_r04_SamePages⟩
theorem S_r04_SamePages:Snd E_r04_SamePages:=ent_ok te_ok mix_ok sn (fn:=Tryz.f21) (by kernel_rfl) (by kernel_rfl) (F:=F_r04_SamePages) rfl
noncomputable def F_l04_PageGives (d:Pden [.val Y9,.val (.int .i64),.val (.int .i64)]):Option (Rden [⟨.bool,[none],none⟩] × Oden [.val Y9,.val (.int .i64),.val (.int .i64)]):=FT [E_made_Make.ent,E_page_Need.ent,E_page_First.ent,E_l04_awake.ent,E_r04_Need.ent,E_page_Large.ent,E_page_Free.ent,E_page_InUse.ent,E_r04_SamePages.ent] [] 89 Tryz.f4 [.p,.p,.p] [.val Y9,.val (.int .i64),.val (.int .i64)] [⟨.bool,[none],none⟩] d
noncomputable def E_l04_PageGives:Entry:=⟨4,[.p,.p,.p],[.val Y9,.val (.int .i64),.val (.int .i64)],[⟨.bool,[none],none⟩],F_l04_PageGives⟩
theorem S_l04_PageGives:Snd E_l04_PageGives:=ent_ok te_ok mix_ok (sc S_made_Make (sc S_page_Need (sc S_page_First (sc S_l04_awake (sc S_r04_Need (sc S_page_Large (sc S_page_Free (sc S_page_InUse (sc S_r04_SamePages sn))))))))) (fn:=Tryz.f4) (by kernel_rfl) (by kernel_rfl) (F:=F_l04_PageGives) rfl
end Go.VI
