import Derived.Test.YtfjkjbffdhoejaaGreatV01
import Derived.Test.YtfjkjbffdhoejaaGreatV03
import Derived.Test.YtfjkjbffdhoejaaGreatProg
set_option linter.unusedSimpArgs false
set_option linter.unusedVariables false
set_option maxRecDepth 100000
set_option maxHeartbeats 4000000
noncomputable section
namespace Go.VI
def te:TE:=[
 ⟨1,(.raw .fn),0,[],8,false,none⟩,
 ⟨2,(.int .i64),0,[],8,true,none⟩,
 ⟨3,(.int .i64),0,[],8,true,none⟩,
 ⟨4,.bool,0,[],1,true,none⟩,
 ⟨5,(.int .u8),0,[],1,true,none⟩,
 ⟨6,(.int .u8),0,[],1,true,none⟩,
 ⟨7,(.prod (.int .i64) (.prod (.int .i64) (.prod .bool (.prod (.int .u8) .unit)))),0,[(0,(.int .i64)),(1,(.int .i64)),(2,.bool),(3,(.int .u8))],24,true,none⟩,
 ⟨8,(.prod (.int .i64) (.prod (.int .i64) (.prod .bool (.prod (.int .u8) .unit)))),0,[(0,(.int .i64)),(1,(.int .i64)),(2,.bool),(3,(.int .u8))],24,true,none⟩,
 ⟨12,(.int .u64),0,[],8,true,none⟩,
 ⟨18,(.prod (.raw .ptr) .unit),0,[(0,(.raw .ptr))],8,false,none⟩,
 ⟨19,(.prod (.raw .ptr) .unit),0,[(0,(.raw .ptr))],8,false,none⟩,
 ⟨20,(.raw .ifc),0,[],16,false,none⟩,
 ⟨21,(.int .i32),0,[],4,true,none⟩,
 ⟨22,(.prod (.int .i64) (.prod (.int .i64) .unit)),0,[(0,(.int .i64)),(1,(.int .i64))],16,true,none⟩,
 ⟨23,(.prod (.int .i64) (.prod (.int .i64) .unit)),0,[(0,(.int .i64)),(1,(.int .i64))],16,true,none⟩,
 ⟨24,(.slice (.int .u64)),55,[],8,false,none⟩,
 ⟨25,(.slice (.prod (.int .i64) (.prod (.int .i64) (.prod (.int .i64) (.prod (.int .i64) .unit))))),70,[],32,false,none⟩,
 ⟨26,(.prod (.prod (.int .i64) (.prod (.int .i64) .unit)) (.prod (.slice (.int .u64)) (.prod (.slice (.prod (.int .i64) (.prod (.int .i64) (.prod (.int .i64) (.prod (.int .i64) .unit))))) (.prod (.int .i64) (.prod (.int .i64) .unit))))),0,[(0,(.prod (.int .i64) (.prod (.int .i64) .unit))),(2,(.slice (.int .u64))),(3,(.slice (.prod (.int .i64) (.prod (.int .i64) (.prod (.int .i64) (.prod (.int .i64) .unit)))))),(4,(.int .i64)),(5,(.int .i64))],80,false,none⟩,
 ⟨27,(.prod (.prod (.int .i64) (.prod (.int .i64) .unit)) (.prod (.slice (.int .u64)) (.prod (.slice (.prod (.int .i64) (.prod (.int .i64) (.prod (.int .i64) (.prod (.int .i64) .unit))))) (.prod (.int .i64) (.prod (.int .i64) .unit))))),0,[(0,(.prod (.int .i64) (.prod (.int .i64) .unit))),(2,(.slice (.int .u64))),(3,(.slice (.prod (.int .i64) (.prod (.int .i64) (.prod (.int .i64) (.prod (.int .i64) .unit)))))),(4,(.int .i64)),(5,(.int .i64))],80,false,none⟩,
 ⟨28,(.slice (.int .i64)),3,[],8,false,none⟩,
 ⟨29,(.prod (.prod (.prod (.int .i64) (.prod (.int .i64) .unit)) (.prod (.slice (.int .u64)) (.prod (.slice (.prod (.int .i64) (.prod (.int .i64) (.prod (.int .i64) (.prod (.int .i64) .unit))))) (.prod (.int .i64) (.prod (.int .i64) .unit))))) (.prod (.slice (.int .u64)) (.prod (.slice (.int .u64)) .unit))),0,[(0,(.prod (.prod (.int .i64) (.prod (.int .i64) .unit)) (.prod (.slice (.int .u64)) (.prod (.slice (.prod (.int .i64) (.prod (.int .i64) (.prod (.int .i64) (.prod (.int .i64) .unit))))) (.prod (.int .i64) (.prod (.int .i64) .unit)))))),(6,(.slice (.int .u64))),(7,(.slice (.int .u64)))],128,false,none⟩,
 ⟨30,(.prod (.prod (.prod (.int .i64) (.prod (.int .i64) .unit)) (.prod (.slice (.int .u64)) (.prod (.slice (.prod (.int .i64) (.prod (.int .i64) (.prod (.int .i64) (.prod (.int .i64) .unit))))) (.prod (.int .i64) (.prod (.int .i64) .unit))))) (.prod (.slice (.int .u64)) (.prod (.slice (.int .u64)) .unit))),0,[(0,(.prod (.prod (.int .i64) (.prod (.int .i64) .unit)) (.prod (.slice (.int .u64)) (.prod (.slice (.prod (.int .i64) (.prod (.int .i64) (.prod (.int .i64) (.prod (.int .i64) .unit))))) (.prod (.int .i64) (.prod (.int .i64) .unit)))))),(6,(.slice (.int .u64))),(7,(.slice (.int .u64)))],128,false,none⟩,
 ⟨31,(.raw .fn),0,[],8,false,none⟩,
 ⟨32,(.raw .fn),0,[],8,false,none⟩,
 ⟨34,(.prod (.slice (.int .i64)) (.prod (.int .i64) .unit)),0,[(0,(.slice (.int .i64))),(1,(.int .i64))],32,false,none⟩,
 ⟨35,(.prod (.slice (.int .i64)) (.prod (.int .i64) .unit)),0,[(0,(.slice (.int .i64))),(1,(.int .i64))],32,false,none⟩,
 ⟨36,(.slice (.prod (.prod (.int .i64) (.prod (.int .i64) .unit)) (.prod (.slice (.int .u64)) (.prod (.slice (.prod (.int .i64) (.prod (.int .i64) (.prod (.int .i64) (.prod (.int .i64) .unit))))) (.prod (.int .i64) (.prod (.int .i64) .unit)))))),27,[],80,false,none⟩,
 ⟨37,(.raw .fn),0,[],8,false,none⟩,
 ⟨38,(.prod (.int .i64) (.prod (.int .i64) (.prod (.int .i64) (.prod (.int .i64) (.prod (.int .i64) (.prod (.int .i64) .unit)))))),0,[(0,(.int .i64)),(1,(.int .i64)),(2,(.int .i64)),(3,(.int .i64)),(4,(.int .i64)),(5,(.int .i64))],48,true,none⟩,
 ⟨39,(.prod (.int .i64) (.prod (.int .i64) (.prod (.int .i64) (.prod (.int .i64) (.prod (.int .i64) (.prod (.int .i64) .unit)))))),0,[(0,(.int .i64)),(1,(.int .i64)),(2,(.int .i64)),(3,(.int .i64)),(4,(.int .i64)),(5,(.int .i64))],48,true,none⟩,
 ⟨40,(.prod (.prod (.prod (.int .i64) (.prod (.int .i64) .unit)) (.prod (.slice (.int .u64)) (.prod (.slice (.prod (.int .i64) (.prod (.int .i64) (.prod (.int .i64) (.prod (.int .i64) .unit))))) (.prod (.int .i64) (.prod (.int .i64) .unit))))) (.prod (.slice (.int .u64)) (.prod (.slice (.int .i64)) (.prod (.slice (.int .u64)) (.prod (.int .i64) (.prod (.prod (.int .i64) (.prod (.int .i64) (.prod (.int .i64) (.prod (.int .i64) (.prod (.int .i64) (.prod (.int .i64) .unit)))))) .unit)))))),0,[(0,(.prod (.prod (.int .i64) (.prod (.int .i64) .unit)) (.prod (.slice (.int .u64)) (.prod (.slice (.prod (.int .i64) (.prod (.int .i64) (.prod (.int .i64) (.prod (.int .i64) .unit))))) (.prod (.int .i64) (.prod (.int .i64) .unit)))))),(6,(.slice (.int .u64))),(7,(.slice (.int .i64))),(8,(.slice (.int .u64))),(9,(.int .i64)),(10,(.prod (.int .i64) (.prod (.int .i64) (.prod (.int .i64) (.prod (.int .i64) (.prod (.int .i64) (.prod (.int .i64) .unit)))))))],208,false,none⟩,
 ⟨41,(.prod (.prod (.prod (.int .i64) (.prod (.int .i64) .unit)) (.prod (.slice (.int .u64)) (.prod (.slice (.prod (.int .i64) (.prod (.int .i64) (.prod (.int .i64) (.prod (.int .i64) .unit))))) (.prod (.int .i64) (.prod (.int .i64) .unit))))) (.prod (.slice (.int .u64)) (.prod (.slice (.int .i64)) (.prod (.slice (.int .u64)) (.prod (.int .i64) (.prod (.prod (.int .i64) (.prod (.int .i64) (.prod (.int .i64) (.prod (.int .i64) (.prod (.int .i64) (.prod (.int .i64) .unit)))))) .unit)))))),0,[(0,(.prod (.prod (.int .i64) (.prod (.int .i64) .unit)) (.prod (.slice (.int .u64)) (.prod (.slice (.prod (.int .i64) (.prod (.int .i64) (.prod (.int .i64) (.prod (.int .i64) .unit))))) (.prod (.int .i64) (.prod (.int .i64) .unit)))))),(6,(.slice (.int .u64))),(7,(.slice (.int .i64))),(8,(.slice (.int .u64))),(9,(.int .i64)),(10,(.prod (.int .i64) (.prod (.int .i64) (.prod (.int .i64) (.prod (.int .i64) (.prod (.int .i64) (.prod (.int .i64) .unit)))))))],208,false,none⟩,
 ⟨42,(.int .i64),0,[],8,true,none⟩,
 ⟨44,(.raw .fn),0,[],8,false,none⟩,
 ⟨45,(.prod (.prod (.prod (.int .i64) (.prod (.int .i64) .unit)) (.prod (.slice (.int .u64)) (.prod (.slice (.prod (.int .i64) (.prod (.int .i64) (.prod (.int .i64) (.prod (.int .i64) .unit))))) (.prod (.int .i64) (.prod (.int .i64) .unit))))) (.prod (.slice (.int .u64)) (.prod (.slice (.int .i64)) (.prod (.slice (.int .u64)) (.prod (.int .i64) (.prod (.prod (.int .i64) (.prod (.int .i64) (.prod (.int .i64) (.prod (.int .i64) (.prod (.int .i64) (.prod (.int .i64) .unit)))))) .unit)))))),0,[(0,(.prod (.prod (.int .i64) (.prod (.int .i64) .unit)) (.prod (.slice (.int .u64)) (.prod (.slice (.prod (.int .i64) (.prod (.int .i64) (.prod (.int .i64) (.prod (.int .i64) .unit))))) (.prod (.int .i64) (.prod (.int .i64) .unit)))))),(6,(.slice (.int .u64))),(7,(.slice (.int .i64))),(8,(.slice (.int .u64))),(9,(.int .i64)),(10,(.prod (.int .i64) (.prod (.int .i64) (.prod (.int .i64) (.prod (.int .i64) (.prod (.int .i64) (.prod (.int .i64) .unit)))))))],208,false,none⟩,
 ⟨47,(.raw .fn),0,[],8,false,none⟩,
 ⟨48,(.raw .fn),0,[],8,false,none⟩,
 ⟨49,(.raw .fn),0,[],8,false,none⟩,
 ⟨50,(.raw .fn),0,[],8,false,none⟩,
 ⟨51,(.raw .fn),0,[],8,false,none⟩,
 ⟨52,(.raw .fn),0,[],8,false,none⟩,
 ⟨54,(.raw .fn),0,[],8,false,none⟩,
 ⟨55,(.int .u64),0,[],8,true,none⟩,
 ⟨57,(.raw .fn),0,[],8,false,none⟩,
 ⟨59,(.raw .fn),0,[],8,false,none⟩,
 ⟨60,(.raw .fn),0,[],8,false,none⟩,
 ⟨61,(.raw .fn),0,[],8,false,none⟩,
 ⟨62,(.raw .fn),0,[],8,false,none⟩,
 ⟨63,(.int .u32),0,[],4,true,none⟩,
 ⟨64,(.prod (.int .i64) (.prod (.int .i64) (.prod (.int .u32) .unit))),0,[(0,(.int .i64)),(1,(.int .i64)),(2,(.int .u32))],24,true,none⟩,
 ⟨65,(.prod (.int .i64) (.prod (.int .i64) (.prod (.int .u32) .unit))),0,[(0,(.int .i64)),(1,(.int .i64)),(2,(.int .u32))],24,true,none⟩,
 ⟨66,(.raw .fn),0,[],8,false,none⟩,
 ⟨68,(.raw .fn),0,[],8,false,none⟩,
 ⟨69,(.prod (.int .i64) (.prod (.int .i64) (.prod (.int .i64) (.prod (.int .i64) .unit)))),0,[(0,(.int .i64)),(1,(.int .i64)),(2,(.int .i64)),(3,(.int .i64))],32,true,none⟩,
 ⟨70,(.prod (.int .i64) (.prod (.int .i64) (.prod (.int .i64) (.prod (.int .i64) .unit)))),0,[(0,(.int .i64)),(1,(.int .i64)),(2,(.int .i64)),(3,(.int .i64))],32,true,none⟩,
 ⟨71,(.raw .fn),0,[],8,false,none⟩,
 ⟨73,(.raw .fn),0,[],8,false,none⟩,
 ⟨75,(.raw .fn),0,[],8,false,none⟩,
 ⟨76,(.raw .fn),0,[],8,false,none⟩,
 ⟨78,(.raw .fn),0,[],8,false,none⟩,
 ⟨80,(.raw .fn),0,[],8,false,none⟩,
 ⟨81,(.raw .fn),0,[],8,false,none⟩,
 ⟨82,(.raw .fn),0,[],8,false,none⟩,
 ⟨83,(.raw .fn),0,[],8,false,none⟩,
 ⟨84,(.raw .fn),0,[],8,false,none⟩,
 ⟨85,(.raw .fn),0,[],8,false,none⟩,
 ⟨87,(.raw .fn),0,[],8,false,none⟩,
 ⟨88,(.raw .fn),0,[],8,false,none⟩,
 ⟨89,(.raw .fn),0,[],8,false,none⟩,
 ⟨90,(.raw .fn),0,[],8,false,none⟩,
 ⟨91,(.int .u64),0,[],8,true,none⟩,
 ⟨92,(.raw .fn),0,[],8,false,none⟩,
 ⟨93,(.raw .fn),0,[],8,false,none⟩,
 ⟨94,(.raw .fn),0,[],8,false,none⟩,
 ⟨95,(.raw .fn),0,[],8,false,none⟩,
 ⟨96,(.raw .fn),0,[],8,false,none⟩,
 ⟨98,(.raw .fn),0,[],8,false,none⟩,
 ⟨100,(.raw .fn),0,[],8,false,none⟩,
 ⟨101,(.raw .fn),0,[],8,false,none⟩,
 ⟨102,(.raw .fn),0,[],8,false,none⟩,
 ⟨104,(.raw .fn),0,[],8,false,none⟩,
 ⟨105,(.raw .fn),0,[],8,false,none⟩,
 ⟨106,(.raw .fn),0,[],8,false,none⟩,
 ⟨108,(.raw .fn),0,[],8,false,none⟩,
 ⟨109,(.raw .fn),0,[],8,false,none⟩,
 ⟨110,(.raw .fn),0,[],8,false,none⟩,
 ⟨111,(.raw .fn),0,[],8,false,none⟩,
 ⟨112,(.raw .fn),0,[],8,false,none⟩,
 ⟨114,(.raw .fn),0,[],8,false,none⟩,
 ⟨115,(.raw .fn),0,[],8,false,none⟩,
 ⟨116,(.raw .fn),0,[],8,false,none⟩,
 ⟨117,(.raw .fn),0,[],8,false,none⟩,
 ⟨118,(.prod (.prod (.prod (.prod (.int .i64) (.prod (.int .i64) .unit)) (.prod (.slice (.int .u64)) (.prod (.slice (.prod (.int .i64) (.prod (.int .i64) (.prod (.int .i64) (.prod (.int .i64) .unit))))) (.prod (.int .i64) (.prod (.int .i64) .unit))))) (.prod (.slice (.int .u64)) (.prod (.slice (.int .i64)) (.prod (.slice (.int .u64)) (.prod (.int .i64) (.prod (.prod (.int .i64) (.prod (.int .i64) (.prod (.int .i64) (.prod (.int .i64) (.prod (.int .i64) (.prod (.int .i64) .unit)))))) .unit)))))) (.prod (.int .i64) .unit)),0,[(0,(.prod (.prod (.prod (.int .i64) (.prod (.int .i64) .unit)) (.prod (.slice (.int .u64)) (.prod (.slice (.prod (.int .i64) (.prod (.int .i64) (.prod (.int .i64) (.prod (.int .i64) .unit))))) (.prod (.int .i64) (.prod (.int .i64) .unit))))) (.prod (.slice (.int .u64)) (.prod (.slice (.int .i64)) (.prod (.slice (.int .u64)) (.prod (.int .i64) (.prod (.prod (.int .i64) (.prod (.int .i64) (.prod (.int .i64) (.prod (.int .i64) (.prod (.int .i64) (.prod (.int .i64) .unit)))))) .unit))))))),(16,(.int .i64))],216,false,none⟩,
 ⟨119,(.prod (.prod (.prod (.prod (.int .i64) (.prod (.int .i64) .unit)) (.prod (.slice (.int .u64)) (.prod (.slice (.prod (.int .i64) (.prod (.int .i64) (.prod (.int .i64) (.prod (.int .i64) .unit))))) (.prod (.int .i64) (.prod (.int .i64) .unit))))) (.prod (.slice (.int .u64)) (.prod (.slice (.int .i64)) (.prod (.slice (.int .u64)) (.prod (.int .i64) (.prod (.prod (.int .i64) (.prod (.int .i64) (.prod (.int .i64) (.prod (.int .i64) (.prod (.int .i64) (.prod (.int .i64) .unit)))))) .unit)))))) (.prod (.int .i64) .unit)),0,[(0,(.prod (.prod (.prod (.int .i64) (.prod (.int .i64) .unit)) (.prod (.slice (.int .u64)) (.prod (.slice (.prod (.int .i64) (.prod (.int .i64) (.prod (.int .i64) (.prod (.int .i64) .unit))))) (.prod (.int .i64) (.prod (.int .i64) .unit))))) (.prod (.slice (.int .u64)) (.prod (.slice (.int .i64)) (.prod (.slice (.int .u64)) (.prod (.int .i64) (.prod (.prod (.int .i64) (.prod (.int .i64) (.prod (.int .i64) (.prod (.int .i64) (.prod (.int .i64) (.prod (.int .i64) .unit)))))) .unit))))))),(16,(.int .i64))],216,false,none⟩,
 ⟨121,(.raw .fn),0,[],8,false,none⟩,
 ⟨122,(.raw .fn),0,[],8,false,none⟩,
 ⟨123,(.raw .fn),0,[],8,false,none⟩,
 ⟨124,(.raw .fn),0,[],8,false,none⟩,
 ⟨126,(.raw .fn),0,[],8,false,none⟩,
 ⟨127,(.raw .fn),0,[],8,false,none⟩,
 ⟨128,(.raw .fn),0,[],8,false,none⟩,
 ⟨129,(.raw .fn),0,[],8,false,none⟩,
 ⟨130,(.raw .fn),0,[],8,false,none⟩,
 ⟨131,(.raw .fn),0,[],8,false,none⟩,
 ⟨132,(.raw .fn),0,[],8,false,none⟩,
 ⟨133,(.prod (.prod (.int .i64) (.prod (.int .i64) .unit)) (.prod (.slice (.prod (.int .i64) (.prod (.int .i64) (.prod (.int .i64) (.prod (.int .i64) .unit))))) .unit)),0,[(0,(.prod (.int .i64) (.prod (.int .i64) .unit))),(2,(.slice (.prod (.int .i64) (.prod (.int .i64) (.prod (.int .i64) (.prod (.int .i64) .unit))))))],40,false,none⟩,
 ⟨134,(.prod (.prod (.int .i64) (.prod (.int .i64) .unit)) (.prod (.slice (.prod (.int .i64) (.prod (.int .i64) (.prod (.int .i64) (.prod (.int .i64) .unit))))) .unit)),0,[(0,(.prod (.int .i64) (.prod (.int .i64) .unit))),(2,(.slice (.prod (.int .i64) (.prod (.int .i64) (.prod (.int .i64) (.prod (.int .i64) .unit))))))],40,false,none⟩,
 ⟨135,(.prod (.int .i64) (.prod (.int .i64) (.prod (.int .u64) .unit))),0,[(0,(.int .i64)),(1,(.int .i64)),(2,(.int .u64))],24,true,none⟩,
 ⟨136,(.prod (.int .i64) (.prod (.int .i64) (.prod (.int .u64) .unit))),0,[(0,(.int .i64)),(1,(.int .i64)),(2,(.int .u64))],24,true,none⟩,
 ⟨137,(.raw .fn),0,[],8,false,none⟩,
 ⟨138,(.raw .fn),0,[],8,false,none⟩,
 ⟨139,(.raw .fn),0,[],8,false,none⟩,
 ⟨140,(.raw .fn),0,[],8,false,none⟩,
 ⟨141,(.raw .fn),0,[],8,false,none⟩,
 ⟨142,(.raw .fn),0,[],8,false,none⟩,
 ⟨143,(.raw .fn),0,[],8,false,none⟩,
 ⟨144,(.raw .fn),0,[],8,false,none⟩,
 ⟨145,(.raw .fn),0,[],8,false,none⟩,
 ⟨146,(.raw .fn),0,[],8,false,none⟩,
 ⟨147,(.prod (.int .i64) (.prod (.int .i64) (.prod (.int .u64) .unit))),0,[(0,(.int .i64)),(1,(.int .i64)),(2,(.int .u64))],24,true,none⟩,
 ⟨148,(.raw .fn),0,[],8,false,none⟩,
 ⟨149,(.raw .fn),0,[],8,false,none⟩,
 ⟨150,(.raw .fn),0,[],8,false,none⟩,
 ⟨152,(.raw .fn),0,[],8,false,none⟩,
 ⟨153,(.raw .fn),0,[],8,false,none⟩,
 ⟨154,(.raw .fn),0,[],8,false,none⟩,
 ⟨155,(.raw .fn),0,[],8,false,none⟩,
 ⟨156,(.raw .fn),0,[],8,false,none⟩,
 ⟨157,(.raw .fn),0,[],8,false,none⟩,
 ⟨158,(.raw .fn),0,[],8,false,none⟩,
 ⟨159,(.prod (.prod (.prod (.prod (.int .i64) (.prod (.int .i64) .unit)) (.prod (.slice (.int .u64)) (.prod (.slice (.prod (.int .i64) (.prod (.int .i64) (.prod (.int .i64) (.prod (.int .i64) .unit))))) (.prod (.int .i64) (.prod (.int .i64) .unit))))) (.prod (.slice (.int .u64)) (.prod (.slice (.int .i64)) (.prod (.slice (.int .u64)) (.prod (.int .i64) (.prod (.prod (.int .i64) (.prod (.int .i64) (.prod (.int .i64) (.prod (.int .i64) (.prod (.int .i64) (.prod (.int .i64) .unit)))))) .unit)))))) (.prod (.int .i64) (.prod (.int .u64) (.prod (.int .u64) .unit)))),0,[(0,(.prod (.prod (.prod (.int .i64) (.prod (.int .i64) .unit)) (.prod (.slice (.int .u64)) (.prod (.slice (.prod (.int .i64) (.prod (.int .i64) (.prod (.int .i64) (.prod (.int .i64) .unit))))) (.prod (.int .i64) (.prod (.int .i64) .unit))))) (.prod (.slice (.int .u64)) (.prod (.slice (.int .i64)) (.prod (.slice (.int .u64)) (.prod (.int .i64) (.prod (.prod (.int .i64) (.prod (.int .i64) (.prod (.int .i64) (.prod (.int .i64) (.prod (.int .i64) (.prod (.int .i64) .unit)))))) .unit))))))),(16,(.int .i64)),(17,(.int .u64)),(18,(.int .u64))],232,false,none⟩,
 ⟨160,(.prod (.prod (.prod (.prod (.int .i64) (.prod (.int .i64) .unit)) (.prod (.slice (.int .u64)) (.prod (.slice (.prod (.int .i64) (.prod (.int .i64) (.prod (.int .i64) (.prod (.int .i64) .unit))))) (.prod (.int .i64) (.prod (.int .i64) .unit))))) (.prod (.slice (.int .u64)) (.prod (.slice (.int .i64)) (.prod (.slice (.int .u64)) (.prod (.int .i64) (.prod (.prod (.int .i64) (.prod (.int .i64) (.prod (.int .i64) (.prod (.int .i64) (.prod (.int .i64) (.prod (.int .i64) .unit)))))) .unit)))))) (.prod (.int .i64) (.prod (.int .u64) (.prod (.int .u64) .unit)))),0,[(0,(.prod (.prod (.prod (.int .i64) (.prod (.int .i64) .unit)) (.prod (.slice (.int .u64)) (.prod (.slice (.prod (.int .i64) (.prod (.int .i64) (.prod (.int .i64) (.prod (.int .i64) .unit))))) (.prod (.int .i64) (.prod (.int .i64) .unit))))) (.prod (.slice (.int .u64)) (.prod (.slice (.int .i64)) (.prod (.slice (.int .u64)) (.prod (.int .i64) (.prod (.prod (.int .i64) (.prod (.int .i64) (.prod (.int .i64) (.prod (.int .i64) (.prod (.int .i64) (.prod (.int .i64) .unit)))))) .unit))))))),(16,(.int .i64)),(17,(.int .u64)),(18,(.int .u64))],232,false,none⟩,
 ⟨161,(.raw .fn),0,[],8,false,none⟩,
 ⟨163,(.raw .fn),0,[],8,false,none⟩,
 ⟨164,(.raw .fn),0,[],8,false,none⟩,
 ⟨166,(.raw .fn),0,[],8,false,none⟩,
 ⟨167,(.raw .fn),0,[],8,false,none⟩,
 ⟨168,(.raw .fn),0,[],8,false,none⟩,
 ⟨169,(.raw .fn),0,[],8,false,none⟩,
 ⟨170,(.raw .fn),0,[],8,false,none⟩,
 ⟨172,(.raw .fn),0,[],8,false,none⟩,
 ⟨175,(.raw .fn),0,[],8,false,none⟩,
 ⟨176,(.raw .fn),0,[],8,false,none⟩,
 ⟨177,(.raw .fn),0,[],8,false,none⟩,
 ⟨178,(.prod (.raw .fn) (.prod (.raw .fn) (.prod (.raw .fn) (.prod (.raw .fn) .unit)))),177,[(0,(.raw .fn)),(1,(.raw .fn)),(2,(.raw .fn)),(3,(.raw .fn))],32,false,some (4,(.raw .fn))⟩,
 ⟨179,(.raw .fn),0,[],8,false,none⟩,
 ⟨180,(.raw .fn),0,[],8,false,none⟩,
 ⟨181,(.prod (.prod (.int .i64) (.prod (.int .i64) (.prod (.int .u32) .unit))) (.prod (.int .i64) .unit)),0,[(0,(.prod (.int .i64) (.prod (.int .i64) (.prod (.int .u32) .unit)))),(3,(.int .i64))],32,true,none⟩,
 ⟨182,(.prod (.prod (.int .i64) (.prod (.int .i64) (.prod (.int .u32) .unit))) (.prod (.int .i64) .unit)),0,[(0,(.prod (.int .i64) (.prod (.int .i64) (.prod (.int .u32) .unit)))),(3,(.int .i64))],32,true,none⟩,
 ⟨183,(.raw .fn),0,[],8,false,none⟩,
 ⟨184,(.raw .fn),0,[],8,false,none⟩,
 ⟨185,(.raw .fn),0,[],8,false,none⟩,
 ⟨186,(.raw .fn),0,[],8,false,none⟩,
 ⟨188,(.raw .fn),0,[],8,false,none⟩,
 ⟨189,(.raw .fn),0,[],8,false,none⟩,
 ⟨190,(.raw .fn),0,[],8,false,none⟩,
 ⟨191,(.raw .fn),0,[],8,false,none⟩,
 ⟨192,(.raw .fn),0,[],8,false,none⟩,
 ⟨194,(.raw .fn),0,[],8,false,none⟩,
 ⟨196,(.raw .fn),0,[],8,false,none⟩,
 ⟨197,(.slice (.prod (.int .i64) (.prod (.int .i64) .unit))),200,[],16,false,none⟩,
 ⟨198,(.raw .fn),0,[],8,false,none⟩,
 ⟨199,(.prod (.int .i64) (.prod (.int .i64) .unit)),0,[(0,(.int .i64)),(1,(.int .i64))],16,true,none⟩,
 ⟨200,(.prod (.int .i64) (.prod (.int .i64) .unit)),0,[(0,(.int .i64)),(1,(.int .i64))],16,true,none⟩,
 ⟨201,(.raw .fn),0,[],8,false,none⟩,
 ⟨202,(.raw .fn),0,[],8,false,none⟩,
 ⟨203,(.raw .fn),0,[],8,false,none⟩,
 ⟨204,(.raw .fn),0,[],8,false,none⟩,
 ⟨205,(.raw .fn),0,[],8,false,none⟩,
 ⟨206,(.slice (.prod (.int .u64) (.prod (.prod (.int .i64) (.prod (.int .i64) (.prod (.int .u32) .unit))) .unit))),221,[],32,false,none⟩,
 ⟨208,(.raw .fn),0,[],8,false,none⟩,
 ⟨209,(.raw .fn),0,[],8,false,none⟩,
 ⟨210,(.slice (.prod (.int .i64) (.prod (.int .i64) (.prod (.int .u64) .unit)))),136,[],24,false,none⟩,
 ⟨211,(.raw .fn),0,[],8,false,none⟩,
 ⟨212,(.raw .fn),0,[],8,false,none⟩,
 ⟨213,(.raw .fn),0,[],8,false,none⟩,
 ⟨214,(.raw .fn),0,[],8,false,none⟩,
 ⟨215,(.raw .fn),0,[],8,false,none⟩,
 ⟨216,(.raw .fn),0,[],8,false,none⟩,
 ⟨217,(.raw .fn),0,[],8,false,none⟩,
 ⟨218,(.raw .fn),0,[],8,false,none⟩,
 ⟨219,(.raw .fn),0,[],8,false,none⟩,
 ⟨220,(.prod (.int .u64) (.prod (.prod (.int .i64) (.prod (.int .i64) (.prod (.int .u32) .unit))) .unit)),0,[(0,(.int .u64)),(1,(.prod (.int .i64) (.prod (.int .i64) (.prod (.int .u32) .unit))))],32,true,none⟩,
 ⟨221,(.prod (.int .u64) (.prod (.prod (.int .i64) (.prod (.int .i64) (.prod (.int .u32) .unit))) .unit)),0,[(0,(.int .u64)),(1,(.prod (.int .i64) (.prod (.int .i64) (.prod (.int .u32) .unit))))],32,true,none⟩,
 ⟨222,(.raw .fn),0,[],8,false,none⟩,
 ⟨224,(.raw .fn),0,[],8,false,none⟩,
 ⟨225,(.raw .fn),0,[],8,false,none⟩,
 ⟨226,(.raw .fn),0,[],8,false,none⟩,
 ⟨227,(.raw .fn),0,[],8,false,none⟩,
 ⟨228,(.slice .bool),4,[],1,false,none⟩,
 ⟨229,(.raw .fn),0,[],8,false,none⟩,
 ⟨230,(.raw .fn),0,[],8,false,none⟩,
 ⟨231,(.raw .fn),0,[],8,false,none⟩,
 ⟨232,(.prod (.int .i64) (.prod (.int .u64) .unit)),0,[(0,(.int .i64)),(1,(.int .u64))],16,true,none⟩,
 ⟨233,(.prod (.int .i64) (.prod (.int .u64) .unit)),0,[(0,(.int .i64)),(1,(.int .u64))],16,true,none⟩,
 ⟨234,(.slice (.prod (.int .i64) (.prod (.int .u64) .unit))),233,[],16,false,none⟩,
 ⟨235,(.raw .fn),0,[],8,false,none⟩,
 ⟨236,(.raw .fn),0,[],8,false,none⟩,
 ⟨237,(.raw .fn),0,[],8,false,none⟩,
 ⟨243,(.int .u8),0,[],1,true,none⟩,
 ⟨244,(.int .u8),0,[],1,true,none⟩,
 ⟨245,(.raw .fn),0,[],8,false,none⟩,
 ⟨247,(.int .i32),0,[],4,true,none⟩,
 ⟨248,(.int .i32),0,[],4,true,none⟩,
 ⟨249,(.prod (.int .u64) (.prod (.int .u64) (.prod (.int .u32) (.prod (.int .u8) (.prod (.int .u8) (.prod (.int .u8) (.prod (.int .u8) (.prod (.raw .fn) (.prod (.raw .ptr) (.prod (.int .i32) (.prod (.int .i32) .unit))))))))))),0,[(0,(.int .u64)),(1,(.int .u64)),(2,(.int .u32)),(3,(.int .u8)),(4,(.int .u8)),(5,(.int .u8)),(6,(.int .u8)),(7,(.raw .fn)),(8,(.raw .ptr)),(9,(.int .i32)),(10,(.int .i32))],48,false,none⟩,
 ⟨250,(.prod (.int .u64) (.prod (.int .u64) (.prod (.int .u32) (.prod (.int .u8) (.prod (.int .u8) (.prod (.int .u8) (.prod (.int .u8) (.prod (.raw .fn) (.prod (.raw .ptr) (.prod (.int .i32) (.prod (.int .i32) .unit))))))))))),0,[(0,(.int .u64)),(1,(.int .u64)),(2,(.int .u32)),(3,(.int .u8)),(4,(.int .u8)),(5,(.int .u8)),(6,(.int .u8)),(7,(.raw .fn)),(8,(.raw .ptr)),(9,(.int .i32)),(10,(.int .i32))],48,false,none⟩]
end Go.VI
namespace Go.VI
open Go Go.Proofs
theorem zbI:Tryz.prog.follows .mixedOrders=true:=by kernel_rfl
theorem zcM:TEok Tryz.prog te:=.of (by kernel_rfl)
abbrev Snd(E:Entry):Prop:=zbZ Tryz.prog E.f/\E.Sound Tryz.prog
theorem sc{E:Entry}{tbl:Tbl}(h:Snd E)(h3:Tbl.Sound Tryz.prog tbl):Tbl.Sound Tryz.prog (E.ent::tbl):=Tbl.sound_cons h.1 h.2 h3
theorem sn:Tbl.Sound Tryz.prog []:=Tbl.sound_nil
abbrev SndO(E:EntryO):Prop:=zbZ Tryz.prog E.f/\E.Sound Tryz.prog
theorem scO{E:EntryO}{tbl:Tbl}(h:SndO E)(h3:Tbl.Sound Tryz.prog tbl):Tbl.Sound Tryz.prog (E.ent::tbl):=Tbl.sound_consO h.1 h.2 h3
@[reducible] def FyT(ps:List PTy)(rs:List RTy):Type:=Pden ps->Option (Rden rs×Oden ps)
@[reducible] def OyT(ps:List OP)(rs:List RTy):Type:=OPden ps->Option (Rden rs×OOden ps)
@[reducible] def nn(k:Nat):List (Option TypeId):=List.replicate k none
@[reducible] def qn(t:Ty)(k:Nat):RTy:=⟨t,nn k,none⟩
@[reducible] def qo(t:Ty)(o:List (Option TypeId)):RTy:=⟨t,o,none⟩
@[reducible] def pp(k:Nat):List AP:=List.replicate k .p
abbrev FT{ps:List PTy}{rs:List RTy}(tbl:Tbl)(ann:Ann)(k:Nat)(fn:Func)(sh:List AP):FyT ps rs:=fun d=>(funT te tbl ann k (zcE fn) fn.results.toList sh ps rs d).ev
abbrev FTO{ps:List OP}{rs:List RTy}(tbl:Tbl)(ann:Ann)(k:Nat)(fn:Func):OyT ps rs:=fun d=>(funO te tbl ann k (zcE fn) fn.results.toList ps rs d).ev
abbrev mE{ps:List PTy}{rs:List RTy}(f:FuncId)(sh:List AP)(F:FyT ps rs):Entry:=⟨f,sh,ps,rs,F⟩
abbrev mO{ps:List OP}{rs:List RTy}(f:FuncId)(F:OyT ps rs):EntryO:=⟨f,ps,rs,F⟩
theorem eo{tbl:Tbl}{ann:Ann}{fn:Func}{f k:Nat}{sh:List AP}{ps:List PTy}{rs:List RTy}{F:FyT ps rs}(hT:tbl.Sound Tryz.prog)(hF:F=FT tbl ann k fn sh)(hA:ann.Sound Tryz.prog:=by exact .of_bare rfl)(hf:Tryz.prog.funcs[f]?=some fn:=by kernel_rfl)(hk:okF fn sh.length k=true:=by kernel_rfl):Snd (mE f sh F):=ent_ok zcM zbI hT hf hk hF hA
theorem eO{tbl:Tbl}{ann:Ann}{fn:Func}{f k:Nat}{ps:List OP}{rs:List RTy}{F:OyT ps rs}(hT:tbl.Sound Tryz.prog)(hF:F=FTO tbl ann k fn)(hA:ann.Sound Tryz.prog:=by exact .of_bare rfl)(hf:Tryz.prog.funcs[f]?=some fn:=by kernel_rfl)(hk:okF fn ps.length k=true:=by kernel_rfl):SndO (mO f F):=ent_okO zcM zbI hT hf hk hF hA
@[reducible] def Y0:Ty:=.prod (.int .i64) .unit
@[reducible] def Y1:Ty:=.prod (.int .i64) Y0
@[reducible] def Y2:Ty:=.prod (.int .i64) Y1
@[reducible] def Y3:Ty:=.prod (.int .i64) Y2
@[reducible] def Y4:Ty:=.slice Y3
@[reducible] def Y5:Ty:=.prod Y4 .unit
@[reducible] def Y6:Ty:=.prod Y1 Y5
@[reducible] def Y7:Ty:=.slice (.int .u64)
@[reducible] def Y8:Ty:=.prod Y4 Y1
@[reducible] def Y9:Ty:=.prod Y7 Y8
@[reducible] def Y10:Ty:=.prod Y1 Y9
@[reducible] def Y11:Ty:=.prod Y10 .unit
@[reducible] def Y12:Ty:=.slice (.int .i64)
@[reducible] def Y13:Ty:=.prod (.int .u32) .unit
@[reducible] def Y14:Ty:=.prod (.int .i64) Y13
@[reducible] def Y15:Ty:=.prod (.int .i64) Y14
@[reducible] def Y16:Ty:=.prod Y10 Y0
@[reducible] def W0_:List (Option TypeId):=[some 55]
def F_page_within:FyT [.val (.int .i64),.val (.int .i64),.val (.int .i64)] [qn .bool 1]:=FT [] [] 15 Tryz.f135 (pp 3)
def E_page_within:=mE 135 (pp 3) F_page_within
theorem zbr:Snd E_page_within:=eo sn rfl
def F_page_ValidConf:FyT [.val Y1] [qn .bool 1]:=FT [E_page_within.ent] [] 17 Tryz.f90 (pp 1)
def E_page_ValidConf:=mE 90 (pp 1) F_page_ValidConf
theorem zbL:Snd E_page_ValidConf:=eo (sc zbr sn) rfl
def F_page_Address:FyT [.val Y1,.val (.int .i64),.val (.int .i64)] [qn (.int .u64) 1,qn (.int .i64) 1]:=FT [E_page_ValidConf.ent,E_page_within.ent] [] 33 Tryz.f180 (pp 3)
def E_page_Address:=mE 180 (pp 3) F_page_Address
theorem zeu:Snd E_page_Address:=eo (sc zbL (sc zbr sn)) rfl
def F_page_size:FyT [.val Y1] [qn (.int .i64) 1]:=FT [] [] 8 Tryz.f91 (pp 1)
def E_page_size:=mE 91 (pp 1) F_page_size
theorem znn:Snd E_page_size:=eo sn rfl
def F_page_isSpace:FyT [.val (.int .i64)] [qn .bool 1]:=FT [] [] 9 Tryz.f92 (pp 1)
def E_page_isSpace:=mE 92 (pp 1) F_page_isSpace
theorem zdc:Snd E_page_isSpace:=eo sn rfl
def F_page_isSmall:FyT [.val Y4,.val (.int .i64)] [qn .bool 1]:=FT [E_page_within.ent] [] 18 Tryz.f93 (pp 2)
def E_page_isSmall:=mE 93 (pp 2) F_page_isSmall
theorem zob:Snd E_page_isSmall:=eo (sc zbr sn) rfl
def F_page_table_free:FyT [.val Y6,.val (.int .i64)] [qn .bool 1]:=FT [] [] 12 Tryz.f136 (pp 2)
def E_page_table_free:=mE 136 (pp 2) F_page_table_free
theorem zj8:Snd E_page_table_free:=eo sn rfl
def F_page_isPins:FyT [.val (.int .i64)] [qn .bool 1]:=FT [E_page_within.ent] [] 5 Tryz.f170 (pp 1)
def E_page_isPins:=mE 170 (pp 1) F_page_isPins
theorem zja:Snd E_page_isPins:=eo (sc zbr sn) rfl
def F_page_table_small:FyT [.val Y6,.val (.int .i64)] [qn .bool 1]:=FT [E_page_isSpace.ent,E_page_within.ent,E_page_isPins.ent] [] 27 Tryz.f137 (pp 2)
def E_page_table_small:=mE 137 (pp 2) F_page_table_small
theorem zi7:Snd E_page_table_small:=eo (sc zdc (sc zbr (sc zja sn))) rfl
def F_page_SmallWords:FyT [.val Y1] [qn (.int .i64) 1]:=FT [E_page_ValidConf.ent] [] 9 Tryz.f196 (pp 1)
def E_page_SmallWords:=mE 196 (pp 1) F_page_SmallWords
theorem ze4:Snd E_page_SmallWords:=eo (sc zbL sn) rfl
def F_page_Need:FyT [.val Y1,.val (.int .i64)] [qn (.int .i64) 1]:=FT [E_page_ValidConf.ent,E_page_within.ent,E_page_SmallWords.ent] [] 28 Tryz.f171 (pp 2)
def E_page_Need:=mE 171 (pp 2) F_page_Need
theorem zhQ:Snd E_page_Need:=eo (sc zbL (sc zbr (sc ze4 sn))) rfl
def F_page_table_large:FyT [.val Y6,.val (.int .i64)] [qn .bool 1]:=FT [E_page_Need.ent,E_page_isSpace.ent,E_page_isPins.ent] [⟨0,[],⟨[4,51],[.val .bool,.val (.int .i64)],[],[],[]⟩,[(.ret,⟨[4],[.val .bool],[],[],[]⟩),(.exit 0,⟨[4],[.val .bool],[],[],[]⟩)],none⟩] 66 Tryz.f138 (pp 2)
def E_page_table_large:=mE 138 (pp 2) F_page_table_large
theorem zi9:Snd E_page_table_large:=eo (sc zhQ (sc zdc (sc zja sn))) rfl
def F_page_table_owned:FyT [.val Y6,.val (.int .i64)] [qn .bool 1]:=FT [E_page_Need.ent] [⟨0,[],⟨[4,5],[.val .bool,.val (.int .i64)],[],[],[]⟩,[(.ret,⟨[4],[.val .bool],[],[],[]⟩),(.exit 0,⟨[4],[.val .bool],[],[],[]⟩)],none⟩] 29 Tryz.f172 (pp 2)
def E_page_table_owned:=mE 172 (pp 2) F_page_table_owned
theorem zi8:Snd E_page_table_owned:=eo (sc zhQ sn) rfl
def F_page_table_tail:FyT [.val Y6,.val (.int .i64)] [qn .bool 1]:=FT [E_page_table_owned.ent] [] 24 Tryz.f139 (pp 2)
def E_page_table_tail:=mE 139 (pp 2) F_page_table_tail
theorem zj7:Snd E_page_table_tail:=eo (sc zi8 sn) rfl
def F_page_table_proper:FyT [.val Y6] [qn .bool 1]:=FT [E_page_within.ent,E_page_table_free.ent,E_page_table_small.ent,E_page_table_large.ent,E_page_table_tail.ent] [⟨0,[],⟨[2,10],[.val .bool,.val (.int .i64)],[],[],[]⟩,[(.ret,⟨[2],[.val .bool],[],[],[]⟩),(.exit 0,⟨[2],[.val .bool],[],[],[]⟩)],none⟩] 30 Tryz.f94 (pp 1)
def E_page_table_proper:=mE 94 (pp 1) F_page_table_proper
theorem zhP:Snd E_page_table_proper:=eo (sc zbr (sc zj8 (sc zi7 (sc zi9 (sc zj7 sn))))) rfl
def F_page_Proper:FyT [.val Y10] [qn .bool 1]:=FT [E_page_ValidConf.ent,E_page_size.ent,E_page_isSpace.ent,E_page_isSmall.ent,E_page_table_proper.ent] [] 48 Tryz.f42 (pp 1)
def E_page_Proper:=mE 42 (pp 1) F_page_Proper
theorem zcJ:Snd E_page_Proper:=eo (sc zbL (sc znn (sc zdc (sc zob (sc zhP sn))))) rfl
def F_page_Of:FyT [.val Y1,.val (.int .u64)] [qn (.int .i64) 1,qn (.int .i64) 1,qn (.int .i64) 1]:=FT [E_page_ValidConf.ent,E_page_size.ent] [] 32 Tryz.f113 (pp 2)
def E_page_Of:=mE 113 (pp 2) F_page_Of
theorem znp:Snd E_page_Of:=eo (sc zbL (sc znn sn)) rfl
def F_object_reader:FyT [.val Y10] [⟨Y11,[],some (155,[27])⟩]:=FT [] [] 4 Tryz.f114 (pp 1)
def E_object_reader:=mE 114 (pp 1) F_object_reader
theorem znq:Snd E_object_reader:=eo sn rfl
def F_arena_locate:FyT [.val Y7,.val (.int .u64),.val (.int .i64)] [qn (.int .i64) 1,qn (.int .i64) 1]:=FT [] [] 32 Tryz.f186 (pp 3)
def E_arena_locate:=mE 186 (pp 3) F_arena_locate
theorem zew:Snd E_arena_locate:=eo sn rfl
def F_arena_Index:FyT [.val Y7,.val (.int .u64)] [qn (.int .i64) 1,qn (.int .i64) 1]:=FT [E_arena_locate.ent] [] 11 Tryz.f153 (pp 2)
def E_arena_Index:=mE 153 (pp 2) F_arena_Index
theorem zqE:Snd E_arena_Index:=eo (sc zew sn) rfl
def F_arena_Load:FyT [.val Y7,.val (.int .u64)] [qn (.int .u64) 1,qn (.int .i64) 1]:=FT [E_arena_Index.ent] [] 21 Tryz.f111 (pp 2)
def E_arena_Load:=mE 111 (pp 2) F_arena_Load
theorem zkN:Snd E_arena_Load:=eo (sc zqE sn) rfl
def F_object_reader_S1_c:FyT [.val (.int .u64),.ptr 27 Y10] [qn (.int .u64) 1,qn (.int .i64) 1]:=FT [E_arena_Load.ent] [] 11 Tryz.f155 (pp 2)
def E_object_reader_S1_c:=mE 155 (pp 2) F_object_reader_S1_c
theorem zg5:Snd E_object_reader_S1_c:=eo (sc zkN sn) rfl
def F_bits_Unpack_S1_c:FyT [.val (.int .i64),.ptr 28 Y12] [qn (.int .i64) 1]:=FT [] [] 8 Tryz.f188 (pp 2)
def E_bits_Unpack_S1_c:=mE 188 (pp 2) F_bits_Unpack_S1_c
theorem zjd:Snd E_bits_Unpack_S1_c:=eo sn rfl
def F_bits_fit_c_bits_Unpack_S1:FyT [.val (.int .i64),.ptr 28 Y12] [qn .bool 1]:=FT [E_bits_Unpack_S1_c.ent] [⟨0,[],⟨[4,5,8],[.val .bool,.val (.int .i64),.val (.int .i64)],[],[1],[.box 28 [.val Y12]]⟩,[(.ret,⟨[4],[.val .bool],[],[1],[.box 28 [.val Y12]]⟩),(.exit 0,⟨[4],[.val .bool],[],[1],[.box 28 [.val Y12]]⟩)],none⟩] 28 Tryz.f187 ([.p,.clo 188 0 1])
def E_bits_fit_c_bits_Unpack_S1:=mE 187 ([.p,.clo 188 0 1]) F_bits_fit_c_bits_Unpack_S1
theorem zd1:Snd E_bits_fit_c_bits_Unpack_S1:=eo (sc zjd sn) rfl
def F_bits_Ones:FyT [.val (.int .i64)] [qn (.int .u64) 1]:=FT [] [] 8 Tryz.f158 (pp 1)
def E_bits_Ones:=mE 158 (pp 1) F_bits_Ones
theorem zfy:Snd E_bits_Ones:=eo sn rfl
def F_bits_Unpack:FyT [.val (.int .u64),.val Y12] [qo Y7 W0_,qn (.int .i64) 1]:=FT [E_bits_fit_c_bits_Unpack_S1.ent,E_bits_Ones.ent] [⟨0,[],⟨[0,18],[.val (.int .u64),.val (.int .i64)],[],[770],[.arr 55 (.int .u64)]⟩,[(.exit 0,⟨[0],[.val (.int .u64)],[],[770],[.arr 55 (.int .u64)]⟩)],none⟩] 41 Tryz.f154 (pp 2)
def E_bits_Unpack:=mE 154 (pp 2) F_bits_Unpack
theorem zje:Snd E_bits_Unpack:=eo (sc zd1 (sc zfy sn)) rfl
def F_header_Valid:FyT [.val Y15] [qn .bool 1]:=FT [E_bits_Ones.ent] [] 45 Tryz.f120 (pp 1)
def E_header_Valid:=mE 120 (pp 1) F_header_Valid
theorem zdd:Snd E_header_Valid:=eo (sc zfy sn) rfl
def F_header_Decode:FyT [.val (.int .u64)] [qn Y15 3,qn .bool 1]:=FT [E_bits_Unpack.ent,E_header_Valid.ent] [] 40 Tryz.f115 (pp 1)
def E_header_Decode:=mE 115 (pp 1) F_header_Decode
theorem znt:Snd E_header_Decode:=eo (sc zje (sc zdd sn)) rfl
def F_header_Size:FyT [.val Y15] [qn (.int .i64) 1]:=FT [E_header_Valid.ent] [] 9 Tryz.f61 (pp 1)
def E_header_Size:=mE 61 (pp 1) F_header_Size
theorem zdD:Snd E_header_Size:=eo (sc zdd sn) rfl
def F_object_fits:FyT [.val Y3,.val (.int .i64),.val (.int .i64)] [qn .bool 1]:=FT [] [] 27 Tryz.f116 (pp 3)
def E_object_fits:=mE 116 (pp 3) F_object_fits
theorem zqA:Snd E_object_fits:=eo sn rfl
def F_object_At:FyT [.val Y10,.val (.int .u64)] [qn Y15 3,qn (.int .i64) 1]:=FT [E_page_Proper.ent,E_page_Of.ent,E_object_reader.ent,E_object_reader_S1_c.ent,E_header_Decode.ent,E_header_Size.ent,E_object_fits.ent] [] 60 Tryz.f59 (pp 2)
def E_object_At:=mE 59 (pp 2) F_object_At
theorem zfu:Snd E_object_At:=eo (sc zcJ (sc znp (sc znq (sc zg5 (sc znt (sc zdD (sc zqA sn))))))) rfl
def F_walk_inPage:FyT [.val Y10,.val (.int .i64)] [⟨Y16,[],some (179,[27,3])⟩]:=FT [] [] 6 Tryz.f145 (pp 2)
def E_walk_inPage:=mE 145 (pp 2) F_walk_inPage
theorem ziZ:Snd E_walk_inPage:=eo sn rfl
end Go.VI
