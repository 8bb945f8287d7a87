import Derived.Test.YtlkibcnhdjmfjaaGreatW01
import Derived.Test.YtlkibcnhdjmfjaaGreatW03
import Derived.Test.YtlkibcnhdjmfjaaGreatProg
set_option linter.unusedSimpArgs false
set_option linter.unusedVariables false
set_option maxRecDepth 100000
set_option maxHeartbeats 4000000
noncomputable section
namespace Go.VI
def te:TE:=[
 ⟨1,(.raw .fn),0,[],8,false,none⟩,
 ⟨2,(.int .i64),0,[],8,true,none⟩,
 ⟨3,(.int .i64),0,[],8,true,none⟩,
 ⟨4,.bool,0,[],1,true,none⟩,
 ⟨5,(.int .u8),0,[],1,true,none⟩,
 ⟨6,(.int .u8),0,[],1,true,none⟩,
 ⟨7,(.prod (.int .i64) (.prod (.int .i64) (.prod .bool (.prod (.int .u8) .unit)))),0,[(0,(.int .i64)),(1,(.int .i64)),(2,.bool),(3,(.int .u8))],24,true,none⟩,
 ⟨8,(.prod (.int .i64) (.prod (.int .i64) (.prod .bool (.prod (.int .u8) .unit)))),0,[(0,(.int .i64)),(1,(.int .i64)),(2,.bool),(3,(.int .u8))],24,true,none⟩,
 ⟨12,(.int .u64),0,[],8,true,none⟩,
 ⟨18,(.prod (.raw .ptr) .unit),0,[(0,(.raw .ptr))],8,false,none⟩,
 ⟨19,(.prod (.raw .ptr) .unit),0,[(0,(.raw .ptr))],8,false,none⟩,
 ⟨20,(.raw .ifc),0,[],16,false,none⟩,
 ⟨21,(.int .i32),0,[],4,true,none⟩,
 ⟨22,(.prod (.int .i64) (.prod (.int .i64) .unit)),0,[(0,(.int .i64)),(1,(.int .i64))],16,true,none⟩,
 ⟨23,(.prod (.int .i64) (.prod (.int .i64) .unit)),0,[(0,(.int .i64)),(1,(.int .i64))],16,true,none⟩,
 ⟨24,(.slice (.int .u64)),37,[],8,false,none⟩,
 ⟨25,(.slice (.prod (.int .i64) (.prod (.int .i64) (.prod (.int .i64) (.prod (.int .i64) .unit))))),63,[],32,false,none⟩,
 ⟨26,(.prod (.prod (.int .i64) (.prod (.int .i64) .unit)) (.prod (.slice (.int .u64)) (.prod (.slice (.prod (.int .i64) (.prod (.int .i64) (.prod (.int .i64) (.prod (.int .i64) .unit))))) (.prod (.int .i64) (.prod (.int .i64) .unit))))),0,[(0,(.prod (.int .i64) (.prod (.int .i64) .unit))),(2,(.slice (.int .u64))),(3,(.slice (.prod (.int .i64) (.prod (.int .i64) (.prod (.int .i64) (.prod (.int .i64) .unit)))))),(4,(.int .i64)),(5,(.int .i64))],80,false,none⟩,
 ⟨27,(.prod (.prod (.int .i64) (.prod (.int .i64) .unit)) (.prod (.slice (.int .u64)) (.prod (.slice (.prod (.int .i64) (.prod (.int .i64) (.prod (.int .i64) (.prod (.int .i64) .unit))))) (.prod (.int .i64) (.prod (.int .i64) .unit))))),0,[(0,(.prod (.int .i64) (.prod (.int .i64) .unit))),(2,(.slice (.int .u64))),(3,(.slice (.prod (.int .i64) (.prod (.int .i64) (.prod (.int .i64) (.prod (.int .i64) .unit)))))),(4,(.int .i64)),(5,(.int .i64))],80,false,none⟩,
 ⟨28,(.slice (.int .i64)),3,[],8,false,none⟩,
 ⟨29,(.slice (.prod (.prod (.int .i64) (.prod (.int .i64) .unit)) (.prod (.slice (.int .u64)) (.prod (.slice (.prod (.int .i64) (.prod (.int .i64) (.prod (.int .i64) (.prod (.int .i64) .unit))))) (.prod (.int .i64) (.prod (.int .i64) .unit)))))),27,[],80,false,none⟩,
 ⟨30,(.raw .fn),0,[],8,false,none⟩,
 ⟨31,(.int .i64),0,[],8,true,none⟩,
 ⟨33,(.raw .fn),0,[],8,false,none⟩,
 ⟨34,(.raw .fn),0,[],8,false,none⟩,
 ⟨35,(.raw .fn),0,[],8,false,none⟩,
 ⟨36,(.raw .fn),0,[],8,false,none⟩,
 ⟨37,(.int .u64),0,[],8,true,none⟩,
 ⟨38,(.raw .fn),0,[],8,false,none⟩,
 ⟨39,(.raw .fn),0,[],8,false,none⟩,
 ⟨40,(.raw .fn),0,[],8,false,none⟩,
 ⟨41,(.prod (.int .i64) (.prod (.int .i64) (.prod (.int .i64) (.prod (.int .i64) (.prod (.int .i64) .unit))))),0,[(0,(.int .i64)),(1,(.int .i64)),(2,(.int .i64)),(3,(.int .i64)),(4,(.int .i64))],40,true,none⟩,
 ⟨42,(.prod (.int .i64) (.prod (.int .i64) (.prod (.int .i64) (.prod (.int .i64) (.prod (.int .i64) .unit))))),0,[(0,(.int .i64)),(1,(.int .i64)),(2,(.int .i64)),(3,(.int .i64)),(4,(.int .i64))],40,true,none⟩,
 ⟨44,(.raw .fn),0,[],8,false,none⟩,
 ⟨45,(.prod (.int .i64) (.prod (.int .i64) (.prod (.int .i64) (.prod (.int .i64) (.prod (.int .i64) .unit))))),0,[(0,(.int .i64)),(1,(.int .i64)),(2,(.int .i64)),(3,(.int .i64)),(4,(.int .i64))],40,true,none⟩,
 ⟨47,(.raw .fn),0,[],8,false,none⟩,
 ⟨48,(.raw .fn),0,[],8,false,none⟩,
 ⟨50,(.raw .fn),0,[],8,false,none⟩,
 ⟨51,(.raw .fn),0,[],8,false,none⟩,
 ⟨52,(.raw .fn),0,[],8,false,none⟩,
 ⟨53,(.prod (.prod (.prod (.int .i64) (.prod (.int .i64) .unit)) (.prod (.slice (.int .u64)) (.prod (.slice (.prod (.int .i64) (.prod (.int .i64) (.prod (.int .i64) (.prod (.int .i64) .unit))))) (.prod (.int .i64) (.prod (.int .i64) .unit))))) (.prod (.slice (.int .u64)) (.prod (.slice (.int .u64)) .unit))),0,[(0,(.prod (.prod (.int .i64) (.prod (.int .i64) .unit)) (.prod (.slice (.int .u64)) (.prod (.slice (.prod (.int .i64) (.prod (.int .i64) (.prod (.int .i64) (.prod (.int .i64) .unit))))) (.prod (.int .i64) (.prod (.int .i64) .unit)))))),(6,(.slice (.int .u64))),(7,(.slice (.int .u64)))],128,false,none⟩,
 ⟨54,(.prod (.prod (.prod (.int .i64) (.prod (.int .i64) .unit)) (.prod (.slice (.int .u64)) (.prod (.slice (.prod (.int .i64) (.prod (.int .i64) (.prod (.int .i64) (.prod (.int .i64) .unit))))) (.prod (.int .i64) (.prod (.int .i64) .unit))))) (.prod (.slice (.int .u64)) (.prod (.slice (.int .u64)) .unit))),0,[(0,(.prod (.prod (.int .i64) (.prod (.int .i64) .unit)) (.prod (.slice (.int .u64)) (.prod (.slice (.prod (.int .i64) (.prod (.int .i64) (.prod (.int .i64) (.prod (.int .i64) .unit))))) (.prod (.int .i64) (.prod (.int .i64) .unit)))))),(6,(.slice (.int .u64))),(7,(.slice (.int .u64)))],128,false,none⟩,
 ⟨55,(.raw .fn),0,[],8,false,none⟩,
 ⟨56,(.int .u32),0,[],4,true,none⟩,
 ⟨57,(.prod (.int .i64) (.prod (.int .i64) (.prod (.int .u32) .unit))),0,[(0,(.int .i64)),(1,(.int .i64)),(2,(.int .u32))],24,true,none⟩,
 ⟨58,(.prod (.int .i64) (.prod (.int .i64) (.prod (.int .u32) .unit))),0,[(0,(.int .i64)),(1,(.int .i64)),(2,(.int .u32))],24,true,none⟩,
 ⟨60,(.raw .fn),0,[],8,false,none⟩,
 ⟨61,(.raw .fn),0,[],8,false,none⟩,
 ⟨62,(.prod (.int .i64) (.prod (.int .i64) (.prod (.int .i64) (.prod (.int .i64) .unit)))),0,[(0,(.int .i64)),(1,(.int .i64)),(2,(.int .i64)),(3,(.int .i64))],32,true,none⟩,
 ⟨63,(.prod (.int .i64) (.prod (.int .i64) (.prod (.int .i64) (.prod (.int .i64) .unit)))),0,[(0,(.int .i64)),(1,(.int .i64)),(2,(.int .i64)),(3,(.int .i64))],32,true,none⟩,
 ⟨64,(.raw .fn),0,[],8,false,none⟩,
 ⟨65,(.raw .fn),0,[],8,false,none⟩,
 ⟨67,(.prod (.slice (.int .i64)) (.prod (.int .i64) .unit)),0,[(0,(.slice (.int .i64))),(1,(.int .i64))],32,false,none⟩,
 ⟨68,(.prod (.slice (.int .i64)) (.prod (.int .i64) .unit)),0,[(0,(.slice (.int .i64))),(1,(.int .i64))],32,false,none⟩,
 ⟨69,(.raw .fn),0,[],8,false,none⟩,
 ⟨70,(.raw .fn),0,[],8,false,none⟩,
 ⟨71,(.prod (.int .i64) (.prod (.int .i64) (.prod (.int .u64) .unit))),0,[(0,(.int .i64)),(1,(.int .i64)),(2,(.int .u64))],24,true,none⟩,
 ⟨72,(.prod (.int .i64) (.prod (.int .i64) (.prod (.int .u64) .unit))),0,[(0,(.int .i64)),(1,(.int .i64)),(2,(.int .u64))],24,true,none⟩,
 ⟨73,(.raw .fn),0,[],8,false,none⟩,
 ⟨74,(.prod (.int .i64) (.prod (.int .i64) (.prod (.int .u64) .unit))),0,[(0,(.int .i64)),(1,(.int .i64)),(2,(.int .u64))],24,true,none⟩,
 ⟨75,(.raw .fn),0,[],8,false,none⟩,
 ⟨76,(.raw .fn),0,[],8,false,none⟩,
 ⟨77,(.raw .fn),0,[],8,false,none⟩,
 ⟨79,(.raw .fn),0,[],8,false,none⟩,
 ⟨80,(.raw .fn),0,[],8,false,none⟩,
 ⟨81,(.raw .fn),0,[],8,false,none⟩,
 ⟨82,(.raw .fn),0,[],8,false,none⟩,
 ⟨83,(.raw .fn),0,[],8,false,none⟩,
 ⟨84,(.raw .fn),0,[],8,false,none⟩,
 ⟨85,(.raw .fn),0,[],8,false,none⟩,
 ⟨86,(.raw .fn),0,[],8,false,none⟩,
 ⟨87,(.raw .fn),0,[],8,false,none⟩,
 ⟨88,(.raw .fn),0,[],8,false,none⟩,
 ⟨89,(.prod (.prod (.int .i64) (.prod (.int .i64) (.prod (.int .u32) .unit))) (.prod (.int .i64) .unit)),0,[(0,(.prod (.int .i64) (.prod (.int .i64) (.prod (.int .u32) .unit)))),(3,(.int .i64))],32,true,none⟩,
 ⟨90,(.prod (.prod (.int .i64) (.prod (.int .i64) (.prod (.int .u32) .unit))) (.prod (.int .i64) .unit)),0,[(0,(.prod (.int .i64) (.prod (.int .i64) (.prod (.int .u32) .unit)))),(3,(.int .i64))],32,true,none⟩,
 ⟨91,(.raw .fn),0,[],8,false,none⟩,
 ⟨92,(.raw .fn),0,[],8,false,none⟩,
 ⟨93,(.raw .fn),0,[],8,false,none⟩,
 ⟨94,(.raw .fn),0,[],8,false,none⟩,
 ⟨96,(.raw .fn),0,[],8,false,none⟩,
 ⟨97,(.raw .fn),0,[],8,false,none⟩,
 ⟨99,(.raw .fn),0,[],8,false,none⟩,
 ⟨100,(.raw .fn),0,[],8,false,none⟩,
 ⟨101,(.int .u64),0,[],8,true,none⟩,
 ⟨102,(.raw .fn),0,[],8,false,none⟩,
 ⟨103,(.raw .fn),0,[],8,false,none⟩,
 ⟨104,(.raw .fn),0,[],8,false,none⟩,
 ⟨105,(.raw .fn),0,[],8,false,none⟩,
 ⟨106,(.raw .fn),0,[],8,false,none⟩,
 ⟨107,(.raw .fn),0,[],8,false,none⟩,
 ⟨108,(.raw .fn),0,[],8,false,none⟩,
 ⟨109,(.raw .fn),0,[],8,false,none⟩,
 ⟨110,(.raw .fn),0,[],8,false,none⟩,
 ⟨111,(.prod (.prod (.int .i64) (.prod (.int .i64) .unit)) (.prod (.slice (.prod (.int .i64) (.prod (.int .i64) (.prod (.int .i64) (.prod (.int .i64) .unit))))) .unit)),0,[(0,(.prod (.int .i64) (.prod (.int .i64) .unit))),(2,(.slice (.prod (.int .i64) (.prod (.int .i64) (.prod (.int .i64) (.prod (.int .i64) .unit))))))],40,false,none⟩,
 ⟨112,(.prod (.prod (.int .i64) (.prod (.int .i64) .unit)) (.prod (.slice (.prod (.int .i64) (.prod (.int .i64) (.prod (.int .i64) (.prod (.int .i64) .unit))))) .unit)),0,[(0,(.prod (.int .i64) (.prod (.int .i64) .unit))),(2,(.slice (.prod (.int .i64) (.prod (.int .i64) (.prod (.int .i64) (.prod (.int .i64) .unit))))))],40,false,none⟩,
 ⟨113,(.raw .fn),0,[],8,false,none⟩,
 ⟨114,(.raw .fn),0,[],8,false,none⟩,
 ⟨115,(.raw .fn),0,[],8,false,none⟩,
 ⟨116,(.raw .fn),0,[],8,false,none⟩,
 ⟨117,(.raw .fn),0,[],8,false,none⟩,
 ⟨118,(.raw .fn),0,[],8,false,none⟩,
 ⟨119,(.raw .fn),0,[],8,false,none⟩,
 ⟨120,(.raw .fn),0,[],8,false,none⟩,
 ⟨121,(.raw .fn),0,[],8,false,none⟩,
 ⟨122,(.raw .fn),0,[],8,false,none⟩,
 ⟨123,(.raw .fn),0,[],8,false,none⟩,
 ⟨125,(.raw .fn),0,[],8,false,none⟩,
 ⟨126,(.slice (.prod (.int .u64) (.prod (.prod (.int .i64) (.prod (.int .i64) (.prod (.int .u32) .unit))) .unit))),164,[],32,false,none⟩,
 ⟨128,(.raw .fn),0,[],8,false,none⟩,
 ⟨129,(.raw .fn),0,[],8,false,none⟩,
 ⟨130,(.slice (.prod (.int .i64) (.prod (.int .i64) (.prod (.int .u64) .unit)))),72,[],24,false,none⟩,
 ⟨131,(.raw .fn),0,[],8,false,none⟩,
 ⟨132,(.raw .fn),0,[],8,false,none⟩,
 ⟨133,(.raw .fn),0,[],8,false,none⟩,
 ⟨134,(.raw .fn),0,[],8,false,none⟩,
 ⟨135,(.raw .fn),0,[],8,false,none⟩,
 ⟨136,(.raw .fn),0,[],8,false,none⟩,
 ⟨137,(.raw .fn),0,[],8,false,none⟩,
 ⟨138,(.raw .fn),0,[],8,false,none⟩,
 ⟨140,(.raw .fn),0,[],8,false,none⟩,
 ⟨141,(.raw .fn),0,[],8,false,none⟩,
 ⟨142,(.raw .fn),0,[],8,false,none⟩,
 ⟨143,(.prod (.raw .fn) (.prod (.raw .fn) (.prod (.raw .fn) (.prod (.raw .fn) .unit)))),142,[(0,(.raw .fn)),(1,(.raw .fn)),(2,(.raw .fn)),(3,(.raw .fn))],32,false,some (4,(.raw .fn))⟩,
 ⟨144,(.raw .fn),0,[],8,false,none⟩,
 ⟨145,(.raw .fn),0,[],8,false,none⟩,
 ⟨146,(.raw .fn),0,[],8,false,none⟩,
 ⟨147,(.raw .fn),0,[],8,false,none⟩,
 ⟨148,(.raw .fn),0,[],8,false,none⟩,
 ⟨149,(.prod (.int .i64) (.prod (.int .u64) .unit)),0,[(0,(.int .i64)),(1,(.int .u64))],16,true,none⟩,
 ⟨150,(.prod (.int .i64) (.prod (.int .u64) .unit)),0,[(0,(.int .i64)),(1,(.int .u64))],16,true,none⟩,
 ⟨151,(.slice (.prod (.int .i64) (.prod (.int .u64) .unit))),150,[],16,false,none⟩,
 ⟨152,(.raw .fn),0,[],8,false,none⟩,
 ⟨153,(.raw .fn),0,[],8,false,none⟩,
 ⟨155,(.raw .fn),0,[],8,false,none⟩,
 ⟨156,(.raw .fn),0,[],8,false,none⟩,
 ⟨158,(.raw .fn),0,[],8,false,none⟩,
 ⟨159,(.prod (.int .i64) (.prod (.int .i64) (.prod (.int .i64) (.prod (.int .i64) (.prod (.int .i64) (.prod (.int .i64) .unit)))))),0,[(0,(.int .i64)),(1,(.int .i64)),(2,(.int .i64)),(3,(.int .i64)),(4,(.int .i64)),(5,(.int .i64))],48,true,none⟩,
 ⟨160,(.prod (.int .i64) (.prod (.int .i64) (.prod (.int .i64) (.prod (.int .i64) (.prod (.int .i64) (.prod (.int .i64) .unit)))))),0,[(0,(.int .i64)),(1,(.int .i64)),(2,(.int .i64)),(3,(.int .i64)),(4,(.int .i64)),(5,(.int .i64))],48,true,none⟩,
 ⟨162,(.raw .fn),0,[],8,false,none⟩,
 ⟨163,(.prod (.int .u64) (.prod (.prod (.int .i64) (.prod (.int .i64) (.prod (.int .u32) .unit))) .unit)),0,[(0,(.int .u64)),(1,(.prod (.int .i64) (.prod (.int .i64) (.prod (.int .u32) .unit))))],32,true,none⟩,
 ⟨164,(.prod (.int .u64) (.prod (.prod (.int .i64) (.prod (.int .i64) (.prod (.int .u32) .unit))) .unit)),0,[(0,(.int .u64)),(1,(.prod (.int .i64) (.prod (.int .i64) (.prod (.int .u32) .unit))))],32,true,none⟩,
 ⟨165,(.raw .fn),0,[],8,false,none⟩,
 ⟨167,(.raw .fn),0,[],8,false,none⟩,
 ⟨168,(.raw .fn),0,[],8,false,none⟩,
 ⟨169,(.slice .bool),4,[],1,false,none⟩,
 ⟨170,(.raw .fn),0,[],8,false,none⟩,
 ⟨171,(.raw .fn),0,[],8,false,none⟩,
 ⟨172,(.raw .fn),0,[],8,false,none⟩,
 ⟨173,(.raw .fn),0,[],8,false,none⟩,
 ⟨174,(.raw .fn),0,[],8,false,none⟩,
 ⟨175,(.raw .fn),0,[],8,false,none⟩,
 ⟨176,(.raw .fn),0,[],8,false,none⟩,
 ⟨177,(.raw .fn),0,[],8,false,none⟩,
 ⟨178,(.raw .fn),0,[],8,false,none⟩,
 ⟨180,(.raw .fn),0,[],8,false,none⟩,
 ⟨181,(.raw .fn),0,[],8,false,none⟩,
 ⟨182,(.raw .fn),0,[],8,false,none⟩,
 ⟨183,(.raw .fn),0,[],8,false,none⟩,
 ⟨184,(.prod (.prod (.prod (.int .i64) (.prod (.int .i64) .unit)) (.prod (.slice (.int .u64)) (.prod (.slice (.prod (.int .i64) (.prod (.int .i64) (.prod (.int .i64) (.prod (.int .i64) .unit))))) (.prod (.int .i64) (.prod (.int .i64) .unit))))) (.prod (.slice (.int .u64)) (.prod (.slice (.int .i64)) (.prod (.slice (.int .u64)) (.prod (.int .i64) (.prod (.prod (.int .i64) (.prod (.int .i64) (.prod (.int .i64) (.prod (.int .i64) (.prod (.int .i64) (.prod (.int .i64) .unit)))))) .unit)))))),0,[(0,(.prod (.prod (.int .i64) (.prod (.int .i64) .unit)) (.prod (.slice (.int .u64)) (.prod (.slice (.prod (.int .i64) (.prod (.int .i64) (.prod (.int .i64) (.prod (.int .i64) .unit))))) (.prod (.int .i64) (.prod (.int .i64) .unit)))))),(6,(.slice (.int .u64))),(7,(.slice (.int .i64))),(8,(.slice (.int .u64))),(9,(.int .i64)),(10,(.prod (.int .i64) (.prod (.int .i64) (.prod (.int .i64) (.prod (.int .i64) (.prod (.int .i64) (.prod (.int .i64) .unit)))))))],208,false,none⟩,
 ⟨185,(.prod (.prod (.prod (.int .i64) (.prod (.int .i64) .unit)) (.prod (.slice (.int .u64)) (.prod (.slice (.prod (.int .i64) (.prod (.int .i64) (.prod (.int .i64) (.prod (.int .i64) .unit))))) (.prod (.int .i64) (.prod (.int .i64) .unit))))) (.prod (.slice (.int .u64)) (.prod (.slice (.int .i64)) (.prod (.slice (.int .u64)) (.prod (.int .i64) (.prod (.prod (.int .i64) (.prod (.int .i64) (.prod (.int .i64) (.prod (.int .i64) (.prod (.int .i64) (.prod (.int .i64) .unit)))))) .unit)))))),0,[(0,(.prod (.prod (.int .i64) (.prod (.int .i64) .unit)) (.prod (.slice (.int .u64)) (.prod (.slice (.prod (.int .i64) (.prod (.int .i64) (.prod (.int .i64) (.prod (.int .i64) .unit))))) (.prod (.int .i64) (.prod (.int .i64) .unit)))))),(6,(.slice (.int .u64))),(7,(.slice (.int .i64))),(8,(.slice (.int .u64))),(9,(.int .i64)),(10,(.prod (.int .i64) (.prod (.int .i64) (.prod (.int .i64) (.prod (.int .i64) (.prod (.int .i64) (.prod (.int .i64) .unit)))))))],208,false,none⟩,
 ⟨187,(.raw .fn),0,[],8,false,none⟩,
 ⟨189,(.raw .fn),0,[],8,false,none⟩,
 ⟨190,(.raw .fn),0,[],8,false,none⟩,
 ⟨191,(.raw .fn),0,[],8,false,none⟩,
 ⟨192,(.raw .fn),0,[],8,false,none⟩,
 ⟨193,(.raw .fn),0,[],8,false,none⟩,
 ⟨195,(.raw .fn),0,[],8,false,none⟩,
 ⟨196,(.raw .fn),0,[],8,false,none⟩,
 ⟨198,(.raw .fn),0,[],8,false,none⟩,
 ⟨200,(.raw .fn),0,[],8,false,none⟩,
 ⟨202,(.raw .fn),0,[],8,false,none⟩,
 ⟨203,(.raw .fn),0,[],8,false,none⟩,
 ⟨204,(.raw .fn),0,[],8,false,none⟩,
 ⟨205,(.slice (.prod (.int .i64) (.prod (.int .i64) .unit))),208,[],16,false,none⟩,
 ⟨206,(.raw .fn),0,[],8,false,none⟩,
 ⟨207,(.prod (.int .i64) (.prod (.int .i64) .unit)),0,[(0,(.int .i64)),(1,(.int .i64))],16,true,none⟩,
 ⟨208,(.prod (.int .i64) (.prod (.int .i64) .unit)),0,[(0,(.int .i64)),(1,(.int .i64))],16,true,none⟩,
 ⟨209,(.raw .fn),0,[],8,false,none⟩,
 ⟨210,(.raw .fn),0,[],8,false,none⟩,
 ⟨212,(.raw .fn),0,[],8,false,none⟩,
 ⟨213,(.raw .fn),0,[],8,false,none⟩,
 ⟨214,(.raw .fn),0,[],8,false,none⟩,
 ⟨220,(.raw .fn),0,[],8,false,none⟩,
 ⟨221,(.int .u8),0,[],1,true,none⟩,
 ⟨222,(.int .u8),0,[],1,true,none⟩,
 ⟨223,(.raw .fn),0,[],8,false,none⟩,
 ⟨225,(.int .i32),0,[],4,true,none⟩,
 ⟨226,(.int .i32),0,[],4,true,none⟩,
 ⟨227,(.prod (.int .u64) (.prod (.int .u64) (.prod (.int .u32) (.prod (.int .u8) (.prod (.int .u8) (.prod (.int .u8) (.prod (.int .u8) (.prod (.raw .fn) (.prod (.raw .ptr) (.prod (.int .i32) (.prod (.int .i32) .unit))))))))))),0,[(0,(.int .u64)),(1,(.int .u64)),(2,(.int .u32)),(3,(.int .u8)),(4,(.int .u8)),(5,(.int .u8)),(6,(.int .u8)),(7,(.raw .fn)),(8,(.raw .ptr)),(9,(.int .i32)),(10,(.int .i32))],48,false,none⟩,
 ⟨228,(.prod (.int .u64) (.prod (.int .u64) (.prod (.int .u32) (.prod (.int .u8) (.prod (.int .u8) (.prod (.int .u8) (.prod (.int .u8) (.prod (.raw .fn) (.prod (.raw .ptr) (.prod (.int .i32) (.prod (.int .i32) .unit))))))))))),0,[(0,(.int .u64)),(1,(.int .u64)),(2,(.int .u32)),(3,(.int .u8)),(4,(.int .u8)),(5,(.int .u8)),(6,(.int .u8)),(7,(.raw .fn)),(8,(.raw .ptr)),(9,(.int .i32)),(10,(.int .i32))],48,false,none⟩]
end Go.VI
namespace Go.VI
open Go Go.Proofs
theorem zaf:Tryz.prog.follows .mixedOrders=true:=by kernel_rfl
theorem zal:TEok Tryz.prog te:=.of (by kernel_rfl)
abbrev Snd(E:Entry):Prop:=zcz Tryz.prog E.f/\E.Sound Tryz.prog
theorem sc{E:Entry}{tbl:Tbl}(h:Snd E)(h3:Tbl.Sound Tryz.prog tbl):Tbl.Sound Tryz.prog (E.ent::tbl):=Tbl.sound_cons h.1 h.2 h3
theorem sn:Tbl.Sound Tryz.prog []:=Tbl.sound_nil
abbrev FT(tbl:Tbl)(ann:Ann)(k:Nat)(fn:Func)(sh:List AP)(ps:List PTy)(rs:List RTy)(d:Pden ps):Option (Rden rs×Oden ps):=(funT te tbl ann k (zmS fn) fn.results.toList sh ps rs d).ev
@[reducible] def Y0:Ty:=.prod (.int .i64) .unit
@[reducible] def Y1:Ty:=.prod (.int .i64) Y0
@[reducible] def Y2:Ty:=.prod (.int .i64) Y1
@[reducible] def Y3:Ty:=.prod (.int .i64) Y2
@[reducible] def Y4:Ty:=.slice Y3
@[reducible] def Y5:Ty:=.prod Y4 .unit
@[reducible] def Y6:Ty:=.prod Y1 Y5
@[reducible] def Y7:Ty:=.slice (.int .u64)
@[reducible] def Y8:Ty:=.prod Y4 Y1
@[reducible] def Y9:Ty:=.prod Y7 Y8
@[reducible] def Y10:Ty:=.prod Y1 Y9
@[reducible] def Y11:Ty:=.prod Y10 .unit
@[reducible] def Y12:Ty:=.slice (.int .i64)
@[reducible] def Y13:Ty:=.prod (.int .u32) .unit
@[reducible] def Y14:Ty:=.prod (.int .i64) Y13
@[reducible] def Y15:Ty:=.prod (.int .i64) Y14
@[reducible] def Y16:Ty:=.prod Y10 Y0
def F_page_within(d:Pden [.val (.int .i64),.val (.int .i64),.val (.int .i64)]):Option (Rden [⟨.bool,[none],none⟩]×Oden [.val (.int .i64),.val (.int .i64),.val (.int .i64)]):=FT [] [] 15 Tryz.f117 [.p,.p,.p] [.val (.int .i64),.val (.int .i64),.val (.int .i64)] [⟨.bool,[none],none⟩] d
def E_page_within:Entry:=⟨117,[.p,.p,.p],[.val (.int .i64),.val (.int .i64),.val (.int .i64)],[⟨.bool,[none],none⟩],F_page_within⟩
theorem zbA:Snd E_page_within:=zah zal zaf sn (fn:=Tryz.f117) (by kernel_rfl) (by kernel_rfl) (F:=F_page_within) rfl (.of_bare rfl)
def F_page_ValidConf(d:Pden [.val Y1]):Option (Rden [⟨.bool,[none],none⟩]×Oden [.val Y1]):=FT [E_page_within.ent] [] 17 Tryz.f76 [.p] [.val Y1] [⟨.bool,[none],none⟩] d
def E_page_ValidConf:Entry:=⟨76,[.p],[.val Y1],[⟨.bool,[none],none⟩],F_page_ValidConf⟩
theorem zbD:Snd E_page_ValidConf:=zah zal zaf (sc zbA sn) (fn:=Tryz.f76) (by kernel_rfl) (by kernel_rfl) (F:=F_page_ValidConf) rfl (.of_bare rfl)
def F_page_Address(d:Pden [.val Y1,.val (.int .i64),.val (.int .i64)]):Option (Rden [⟨(.int .u64),[none],none⟩,⟨(.int .i64),[none],none⟩]×Oden [.val Y1,.val (.int .i64),.val (.int .i64)]):=FT [E_page_ValidConf.ent,E_page_within.ent] [] 33 Tryz.f82 [.p,.p,.p] [.val Y1,.val (.int .i64),.val (.int .i64)] [⟨(.int .u64),[none],none⟩,⟨(.int .i64),[none],none⟩] d
def E_page_Address:Entry:=⟨82,[.p,.p,.p],[.val Y1,.val (.int .i64),.val (.int .i64)],[⟨(.int .u64),[none],none⟩,⟨(.int .i64),[none],none⟩],F_page_Address⟩
theorem zf2:Snd E_page_Address:=zah zal zaf (sc zbD (sc zbA sn)) (fn:=Tryz.f82) (by kernel_rfl) (by kernel_rfl) (F:=F_page_Address) rfl (.of_bare rfl)
def F_page_size(d:Pden [.val Y1]):Option (Rden [⟨(.int .i64),[none],none⟩]×Oden [.val Y1]):=FT [] [] 8 Tryz.f77 [.p] [.val Y1] [⟨(.int .i64),[none],none⟩] d
def E_page_size:Entry:=⟨77,[.p],[.val Y1],[⟨(.int .i64),[none],none⟩],F_page_size⟩
theorem zlz:Snd E_page_size:=zah zal zaf sn (fn:=Tryz.f77) (by kernel_rfl) (by kernel_rfl) (F:=F_page_size) rfl (.of_bare rfl)
def F_page_isSpace(d:Pden [.val (.int .i64)]):Option (Rden [⟨.bool,[none],none⟩]×Oden [.val (.int .i64)]):=FT [] [] 9 Tryz.f78 [.p] [.val (.int .i64)] [⟨.bool,[none],none⟩] d
def E_page_isSpace:Entry:=⟨78,[.p],[.val (.int .i64)],[⟨.bool,[none],none⟩],F_page_isSpace⟩
theorem zdZ:Snd E_page_isSpace:=zah zal zaf sn (fn:=Tryz.f78) (by kernel_rfl) (by kernel_rfl) (F:=F_page_isSpace) rfl (.of_bare rfl)
def F_page_isSmall(d:Pden [.val Y4,.val (.int .i64)]):Option (Rden [⟨.bool,[none],none⟩]×Oden [.val Y4,.val (.int .i64)]):=FT [E_page_within.ent] [] 18 Tryz.f79 [.p,.p] [.val Y4,.val (.int .i64)] [⟨.bool,[none],none⟩] d
def E_page_isSmall:Entry:=⟨79,[.p,.p],[.val Y4,.val (.int .i64)],[⟨.bool,[none],none⟩],F_page_isSmall⟩
theorem zmg:Snd E_page_isSmall:=zah zal zaf (sc zbA sn) (fn:=Tryz.f79) (by kernel_rfl) (by kernel_rfl) (F:=F_page_isSmall) rfl (.of_bare rfl)
def F_page_table_free(d:Pden [.val Y6,.val (.int .i64)]):Option (Rden [⟨.bool,[none],none⟩]×Oden [.val Y6,.val (.int .i64)]):=FT [] [] 12 Tryz.f118 [.p,.p] [.val Y6,.val (.int .i64)] [⟨.bool,[none],none⟩] d
def E_page_table_free:Entry:=⟨118,[.p,.p],[.val Y6,.val (.int .i64)],[⟨.bool,[none],none⟩],F_page_table_free⟩
theorem ziJ:Snd E_page_table_free:=zah zal zaf sn (fn:=Tryz.f118) (by kernel_rfl) (by kernel_rfl) (F:=F_page_table_free) rfl (.of_bare rfl)
def F_page_isPins(d:Pden [.val (.int .i64)]):Option (Rden [⟨.bool,[none],none⟩]×Oden [.val (.int .i64)]):=FT [E_page_within.ent] [] 5 Tryz.f147 [.p] [.val (.int .i64)] [⟨.bool,[none],none⟩] d
def E_page_isPins:Entry:=⟨147,[.p],[.val (.int .i64)],[⟨.bool,[none],none⟩],F_page_isPins⟩
theorem zhN:Snd E_page_isPins:=zah zal zaf (sc zbA sn) (fn:=Tryz.f147) (by kernel_rfl) (by kernel_rfl) (F:=F_page_isPins) rfl (.of_bare rfl)
def F_page_table_small(d:Pden [.val Y6,.val (.int .i64)]):Option (Rden [⟨.bool,[none],none⟩]×Oden [.val Y6,.val (.int .i64)]):=FT [E_page_isSpace.ent,E_page_within.ent,E_page_isPins.ent] [] 27 Tryz.f119 [.p,.p] [.val Y6,.val (.int .i64)] [⟨.bool,[none],none⟩] d
def E_page_table_small:Entry:=⟨119,[.p,.p],[.val Y6,.val (.int .i64)],[⟨.bool,[none],none⟩],F_page_table_small⟩
theorem zhK:Snd E_page_table_small:=zah zal zaf (sc zdZ (sc zbA (sc zhN sn))) (fn:=Tryz.f119) (by kernel_rfl) (by kernel_rfl) (F:=F_page_table_small) rfl (.of_bare rfl)
def F_page_SmallWords(d:Pden [.val Y1]):Option (Rden [⟨(.int .i64),[none],none⟩]×Oden [.val Y1]):=FT [E_page_ValidConf.ent] [] 9 Tryz.f168 [.p] [.val Y1] [⟨(.int .i64),[none],none⟩] d
def E_page_SmallWords:Entry:=⟨168,[.p],[.val Y1],[⟨(.int .i64),[none],none⟩],F_page_SmallWords⟩
theorem zeg:Snd E_page_SmallWords:=zah zal zaf (sc zbD sn) (fn:=Tryz.f168) (by kernel_rfl) (by kernel_rfl) (F:=F_page_SmallWords) rfl (.of_bare rfl)
def F_page_Need(d:Pden [.val Y1,.val (.int .i64)]):Option (Rden [⟨(.int .i64),[none],none⟩]×Oden [.val Y1,.val (.int .i64)]):=FT [E_page_ValidConf.ent,E_page_within.ent,E_page_SmallWords.ent] [] 28 Tryz.f148 [.p,.p] [.val Y1,.val (.int .i64)] [⟨(.int .i64),[none],none⟩] d
def E_page_Need:Entry:=⟨148,[.p,.p],[.val Y1,.val (.int .i64)],[⟨(.int .i64),[none],none⟩],F_page_Need⟩
theorem zgy:Snd E_page_Need:=zah zal zaf (sc zbD (sc zbA (sc zeg sn))) (fn:=Tryz.f148) (by kernel_rfl) (by kernel_rfl) (F:=F_page_Need) rfl (.of_bare rfl)
def F_page_table_large(d:Pden [.val Y6,.val (.int .i64)]):Option (Rden [⟨.bool,[none],none⟩]×Oden [.val Y6,.val (.int .i64)]):=FT [E_page_Need.ent,E_page_isSpace.ent,E_page_isPins.ent] [⟨0,[],⟨[4,51],[.val .bool,.val (.int .i64)],[],[],[]⟩,[(.ret,⟨[4],[.val .bool],[],[],[]⟩),(.exit 0,⟨[4],[.val .bool],[],[],[]⟩)],none⟩] 66 Tryz.f120 [.p,.p] [.val Y6,.val (.int .i64)] [⟨.bool,[none],none⟩] d
def E_page_table_large:Entry:=⟨120,[.p,.p],[.val Y6,.val (.int .i64)],[⟨.bool,[none],none⟩],F_page_table_large⟩
theorem zhM:Snd E_page_table_large:=zah zal zaf (sc zgy (sc zdZ (sc zhN sn))) (fn:=Tryz.f120) (by kernel_rfl) (by kernel_rfl) (F:=F_page_table_large) rfl (.of_bare rfl)
def F_page_table_owned(d:Pden [.val Y6,.val (.int .i64)]):Option (Rden [⟨.bool,[none],none⟩]×Oden [.val Y6,.val (.int .i64)]):=FT [E_page_Need.ent] [⟨0,[],⟨[4,5],[.val .bool,.val (.int .i64)],[],[],[]⟩,[(.ret,⟨[4],[.val .bool],[],[],[]⟩),(.exit 0,⟨[4],[.val .bool],[],[],[]⟩)],none⟩] 29 Tryz.f149 [.p,.p] [.val Y6,.val (.int .i64)] [⟨.bool,[none],none⟩] d
def E_page_table_owned:Entry:=⟨149,[.p,.p],[.val Y6,.val (.int .i64)],[⟨.bool,[none],none⟩],F_page_table_owned⟩
theorem zhL:Snd E_page_table_owned:=zah zal zaf (sc zgy sn) (fn:=Tryz.f149) (by kernel_rfl) (by kernel_rfl) (F:=F_page_table_owned) rfl (.of_bare rfl)
def F_page_table_tail(d:Pden [.val Y6,.val (.int .i64)]):Option (Rden [⟨.bool,[none],none⟩]×Oden [.val Y6,.val (.int .i64)]):=FT [E_page_table_owned.ent] [] 24 Tryz.f121 [.p,.p] [.val Y6,.val (.int .i64)] [⟨.bool,[none],none⟩] d
def E_page_table_tail:Entry:=⟨121,[.p,.p],[.val Y6,.val (.int .i64)],[⟨.bool,[none],none⟩],F_page_table_tail⟩
theorem ziI:Snd E_page_table_tail:=zah zal zaf (sc zhL sn) (fn:=Tryz.f121) (by kernel_rfl) (by kernel_rfl) (F:=F_page_table_tail) rfl (.of_bare rfl)
def F_page_table_proper(d:Pden [.val Y6]):Option (Rden [⟨.bool,[none],none⟩]×Oden [.val Y6]):=FT [E_page_within.ent,E_page_table_free.ent,E_page_table_small.ent,E_page_table_large.ent,E_page_table_tail.ent] [⟨0,[],⟨[2,10],[.val .bool,.val (.int .i64)],[],[],[]⟩,[(.ret,⟨[2],[.val .bool],[],[],[]⟩),(.exit 0,⟨[2],[.val .bool],[],[],[]⟩)],none⟩] 30 Tryz.f80 [.p] [.val Y6] [⟨.bool,[none],none⟩] d
def E_page_table_proper:Entry:=⟨80,[.p],[.val Y6],[⟨.bool,[none],none⟩],F_page_table_proper⟩
theorem zgx:Snd E_page_table_proper:=zah zal zaf (sc zbA (sc ziJ (sc zhK (sc zhM (sc ziI sn))))) (fn:=Tryz.f80) (by kernel_rfl) (by kernel_rfl) (F:=F_page_table_proper) rfl (.of_bare rfl)
def F_page_Proper(d:Pden [.val Y10]):Option (Rden [⟨.bool,[none],none⟩]×Oden [.val Y10]):=FT [E_page_ValidConf.ent,E_page_size.ent,E_page_isSpace.ent,E_page_isSmall.ent,E_page_table_proper.ent] [] 48 Tryz.f42 [.p] [.val Y10] [⟨.bool,[none],none⟩] d
def E_page_Proper:Entry:=⟨42,[.p],[.val Y10],[⟨.bool,[none],none⟩],F_page_Proper⟩
theorem zdd:Snd E_page_Proper:=zah zal zaf (sc zbD (sc zlz (sc zdZ (sc zmg (sc zgx sn))))) (fn:=Tryz.f42) (by kernel_rfl) (by kernel_rfl) (F:=F_page_Proper) rfl (.of_bare rfl)
def F_page_Of(d:Pden [.val Y1,.val (.int .u64)]):Option (Rden [⟨(.int .i64),[none],none⟩,⟨(.int .i64),[none],none⟩,⟨(.int .i64),[none],none⟩]×Oden [.val Y1,.val (.int .u64)]):=FT [E_page_ValidConf.ent,E_page_size.ent] [] 32 Tryz.f122 [.p,.p] [.val Y1,.val (.int .u64)] [⟨(.int .i64),[none],none⟩,⟨(.int .i64),[none],none⟩,⟨(.int .i64),[none],none⟩] d
def E_page_Of:Entry:=⟨122,[.p,.p],[.val Y1,.val (.int .u64)],[⟨(.int .i64),[none],none⟩,⟨(.int .i64),[none],none⟩,⟨(.int .i64),[none],none⟩],F_page_Of⟩
theorem zqk:Snd E_page_Of:=zah zal zaf (sc zbD (sc zlz sn)) (fn:=Tryz.f122) (by kernel_rfl) (by kernel_rfl) (F:=F_page_Of) rfl (.of_bare rfl)
def F_object_reader(d:Pden [.val Y10]):Option (Rden [⟨Y11,[],some (150,[27])⟩]×Oden [.val Y10]):=FT [] [] 4 Tryz.f123 [.p] [.val Y10] [⟨Y11,[],some (150,[27])⟩] d
def E_object_reader:Entry:=⟨123,[.p],[.val Y10],[⟨Y11,[],some (150,[27])⟩],F_object_reader⟩
theorem zlA:Snd E_object_reader:=zah zal zaf sn (fn:=Tryz.f123) (by kernel_rfl) (by kernel_rfl) (F:=F_object_reader) rfl (.of_bare rfl)
def F_arena_locate(d:Pden [.val Y7,.val (.int .u64),.val (.int .i64)]):Option (Rden [⟨(.int .i64),[none],none⟩,⟨(.int .i64),[none],none⟩]×Oden [.val Y7,.val (.int .u64),.val (.int .i64)]):=FT [] [] 32 Tryz.f155 [.p,.p,.p] [.val Y7,.val (.int .u64),.val (.int .i64)] [⟨(.int .i64),[none],none⟩,⟨(.int .i64),[none],none⟩] d
def E_arena_locate:Entry:=⟨155,[.p,.p,.p],[.val Y7,.val (.int .u64),.val (.int .i64)],[⟨(.int .i64),[none],none⟩,⟨(.int .i64),[none],none⟩],F_arena_locate⟩
theorem zmh:Snd E_arena_locate:=zah zal zaf sn (fn:=Tryz.f155) (by kernel_rfl) (by kernel_rfl) (F:=F_arena_locate) rfl (.of_bare rfl)
def F_arena_Index(d:Pden [.val Y7,.val (.int .u64)]):Option (Rden [⟨(.int .i64),[none],none⟩,⟨(.int .i64),[none],none⟩]×Oden [.val Y7,.val (.int .u64)]):=FT [E_arena_locate.ent] [] 11 Tryz.f171 [.p,.p] [.val Y7,.val (.int .u64)] [⟨(.int .i64),[none],none⟩,⟨(.int .i64),[none],none⟩] d
def E_arena_Index:Entry:=⟨171,[.p,.p],[.val Y7,.val (.int .u64)],[⟨(.int .i64),[none],none⟩,⟨(.int .i64),[none],none⟩],F_arena_Index⟩
theorem zos:Snd E_arena_Index:=zah zal zaf (sc zmh sn) (fn:=Tryz.f171) (by kernel_rfl) (by kernel_rfl) (F:=F_arena_Index) rfl (.of_bare rfl)
def F_arena_Load(d:Pden [.val Y7,.val (.int .u64)]):Option (Rden [⟨(.int .u64),[none],none⟩,⟨(.int .i64),[none],none⟩]×Oden [.val Y7,.val (.int .u64)]):=FT [E_arena_Index.ent] [] 21 Tryz.f151 [.p,.p] [.val Y7,.val (.int .u64)] [⟨(.int .u64),[none],none⟩,⟨(.int .i64),[none],none⟩] d
def E_arena_Load:Entry:=⟨151,[.p,.p],[.val Y7,.val (.int .u64)],[⟨(.int .u64),[none],none⟩,⟨(.int .i64),[none],none⟩],F_arena_Load⟩
theorem zqp:Snd E_arena_Load:=zah zal zaf (sc zos sn) (fn:=Tryz.f151) (by kernel_rfl) (by kernel_rfl) (F:=F_arena_Load) rfl (.of_bare rfl)
def F_object_reader_S1_c(d:Pden [.val (.int .u64),.ptr 27 Y10]):Option (Rden [⟨(.int .u64),[none],none⟩,⟨(.int .i64),[none],none⟩]×Oden [.val (.int .u64),.ptr 27 Y10]):=FT [E_arena_Load.ent] [] 11 Tryz.f150 [.p,.p] [.val (.int .u64),.ptr 27 Y10] [⟨(.int .u64),[none],none⟩,⟨(.int .i64),[none],none⟩] d
def E_object_reader_S1_c:Entry:=⟨150,[.p,.p],[.val (.int .u64),.ptr 27 Y10],[⟨(.int .u64),[none],none⟩,⟨(.int .i64),[none],none⟩],F_object_reader_S1_c⟩
theorem zfO:Snd E_object_reader_S1_c:=zah zal zaf (sc zqp sn) (fn:=Tryz.f150) (by kernel_rfl) (by kernel_rfl) (F:=F_object_reader_S1_c) rfl (.of_bare rfl)
def F_bits_Unpack_S1_c(d:Pden [.val (.int .i64),.ptr 28 Y12]):Option (Rden [⟨(.int .i64),[none],none⟩]×Oden [.val (.int .i64),.ptr 28 Y12]):=FT [] [] 8 Tryz.f172 [.p,.p] [.val (.int .i64),.ptr 28 Y12] [⟨(.int .i64),[none],none⟩] d
def E_bits_Unpack_S1_c:Entry:=⟨172,[.p,.p],[.val (.int .i64),.ptr 28 Y12],[⟨(.int .i64),[none],none⟩],F_bits_Unpack_S1_c⟩
theorem zhR:Snd E_bits_Unpack_S1_c:=zah zal zaf sn (fn:=Tryz.f172) (by kernel_rfl) (by kernel_rfl) (F:=F_bits_Unpack_S1_c) rfl (.of_bare rfl)
def F_bits_fit_c_bits_Unpack_S1(d:Pden [.val (.int .i64),.ptr 28 Y12]):Option (Rden [⟨.bool,[none],none⟩]×Oden [.val (.int .i64),.ptr 28 Y12]):=FT [E_bits_Unpack_S1_c.ent] [⟨0,[],⟨[4,5,8],[.val .bool,.val (.int .i64),.val (.int .i64)],[],[1],[.box 28 [.val Y12]]⟩,[(.ret,⟨[4],[.val .bool],[],[1],[.box 28 [.val Y12]]⟩),(.exit 0,⟨[4],[.val .bool],[],[1],[.box 28 [.val Y12]]⟩)],none⟩] 28 Tryz.f153 [.p,.clo 172 0 1] [.val (.int .i64),.ptr 28 Y12] [⟨.bool,[none],none⟩] d
def E_bits_fit_c_bits_Unpack_S1:Entry:=⟨153,[.p,.clo 172 0 1],[.val (.int .i64),.ptr 28 Y12],[⟨.bool,[none],none⟩],F_bits_fit_c_bits_Unpack_S1⟩
theorem zdB:Snd E_bits_fit_c_bits_Unpack_S1:=zah zal zaf (sc zhR sn) (fn:=Tryz.f153) (by kernel_rfl) (by kernel_rfl) (F:=F_bits_fit_c_bits_Unpack_S1) rfl (.of_bare rfl)
def F_bits_Ones(d:Pden [.val (.int .i64)]):Option (Rden [⟨(.int .u64),[none],none⟩]×Oden [.val (.int .i64)]):=FT [] [] 8 Tryz.f127 [.p] [.val (.int .i64)] [⟨(.int .u64),[none],none⟩] d
def E_bits_Ones:Entry:=⟨127,[.p],[.val (.int .i64)],[⟨(.int .u64),[none],none⟩],F_bits_Ones⟩
theorem zlC:Snd E_bits_Ones:=zah zal zaf sn (fn:=Tryz.f127) (by kernel_rfl) (by kernel_rfl) (F:=F_bits_Ones) rfl (.of_bare rfl)
def F_bits_Unpack(d:Pden [.val (.int .u64),.val Y12]):Option (Rden [⟨Y7,[some 37],none⟩,⟨(.int .i64),[none],none⟩]×Oden [.val (.int .u64),.val Y12]):=FT [E_bits_fit_c_bits_Unpack_S1.ent,E_bits_Ones.ent] [⟨0,[],⟨[0,18],[.val (.int .u64),.val (.int .i64)],[],[770],[.arr 37 (.int .u64)]⟩,[(.exit 0,⟨[0],[.val (.int .u64)],[],[770],[.arr 37 (.int .u64)]⟩)],none⟩] 41 Tryz.f152 [.p,.p] [.val (.int .u64),.val Y12] [⟨Y7,[some 37],none⟩,⟨(.int .i64),[none],none⟩] d
def E_bits_Unpack:Entry:=⟨152,[.p,.p],[.val (.int .u64),.val Y12],[⟨Y7,[some 37],none⟩,⟨(.int .i64),[none],none⟩],F_bits_Unpack⟩
theorem zor:Snd E_bits_Unpack:=zah zal zaf (sc zdB (sc zlC sn)) (fn:=Tryz.f152) (by kernel_rfl) (by kernel_rfl) (F:=F_bits_Unpack) rfl (.of_bare rfl)
def F_header_Valid(d:Pden [.val Y15]):Option (Rden [⟨.bool,[none],none⟩]×Oden [.val Y15]):=FT [E_bits_Ones.ent] [] 45 Tryz.f89 [.p] [.val Y15] [⟨.bool,[none],none⟩] d
def E_header_Valid:Entry:=⟨89,[.p],[.val Y15],[⟨.bool,[none],none⟩],F_header_Valid⟩
theorem zcY:Snd E_header_Valid:=zah zal zaf (sc zlC sn) (fn:=Tryz.f89) (by kernel_rfl) (by kernel_rfl) (F:=F_header_Valid) rfl (.of_bare rfl)
def F_header_Decode(d:Pden [.val (.int .u64)]):Option (Rden [⟨Y15,[none,none,none],none⟩,⟨.bool,[none],none⟩]×Oden [.val (.int .u64)]):=FT [E_bits_Unpack.ent,E_header_Valid.ent] [] 40 Tryz.f124 [.p] [.val (.int .u64)] [⟨Y15,[none,none,none],none⟩,⟨.bool,[none],none⟩] d
def E_header_Decode:Entry:=⟨124,[.p],[.val (.int .u64)],[⟨Y15,[none,none,none],none⟩,⟨.bool,[none],none⟩],F_header_Decode⟩
theorem zlB:Snd E_header_Decode:=zah zal zaf (sc zor (sc zcY sn)) (fn:=Tryz.f124) (by kernel_rfl) (by kernel_rfl) (F:=F_header_Decode) rfl (.of_bare rfl)
def F_header_Size(d:Pden [.val Y15]):Option (Rden [⟨(.int .i64),[none],none⟩]×Oden [.val Y15]):=FT [E_header_Valid.ent] [] 9 Tryz.f52 [.p] [.val Y15] [⟨(.int .i64),[none],none⟩] d
def E_header_Size:Entry:=⟨52,[.p],[.val Y15],[⟨(.int .i64),[none],none⟩],F_header_Size⟩
theorem zeF:Snd E_header_Size:=zah zal zaf (sc zcY sn) (fn:=Tryz.f52) (by kernel_rfl) (by kernel_rfl) (F:=F_header_Size) rfl (.of_bare rfl)
def F_object_fits(d:Pden [.val Y3,.val (.int .i64),.val (.int .i64)]):Option (Rden [⟨.bool,[none],none⟩]×Oden [.val Y3,.val (.int .i64),.val (.int .i64)]):=FT [] [] 27 Tryz.f125 [.p,.p,.p] [.val Y3,.val (.int .i64),.val (.int .i64)] [⟨.bool,[none],none⟩] d
def E_object_fits:Entry:=⟨125,[.p,.p,.p],[.val Y3,.val (.int .i64),.val (.int .i64)],[⟨.bool,[none],none⟩],F_object_fits⟩
theorem zoq:Snd E_object_fits:=zah zal zaf sn (fn:=Tryz.f125) (by kernel_rfl) (by kernel_rfl) (F:=F_object_fits) rfl (.of_bare rfl)
def F_object_At(d:Pden [.val Y10,.val (.int .u64)]):Option (Rden [⟨Y15,[none,none,none],none⟩,⟨(.int .i64),[none],none⟩]×Oden [.val Y10,.val (.int .u64)]):=FT [E_page_Proper.ent,E_page_Of.ent,E_object_reader.ent,E_object_reader_S1_c.ent,E_header_Decode.ent,E_header_Size.ent,E_object_fits.ent] [] 60 Tryz.f83 [.p,.p] [.val Y10,.val (.int .u64)] [⟨Y15,[none,none,none],none⟩,⟨(.int .i64),[none],none⟩] d
def E_object_At:Entry:=⟨83,[.p,.p],[.val Y10,.val (.int .u64)],[⟨Y15,[none,none,none],none⟩,⟨(.int .i64),[none],none⟩],F_object_At⟩
theorem zgz:Snd E_object_At:=zah zal zaf (sc zdd (sc zqk (sc zlA (sc zfO (sc zlB (sc zeF (sc zoq sn))))))) (fn:=Tryz.f83) (by kernel_rfl) (by kernel_rfl) (F:=F_object_At) rfl (.of_bare rfl)
def F_walk_inPage(d:Pden [.val Y10,.val (.int .i64)]):Option (Rden [⟨Y16,[],some (81,[27,3])⟩]×Oden [.val Y10,.val (.int .i64)]):=FT [] [] 6 Tryz.f44 [.p,.p] [.val Y10,.val (.int .i64)] [⟨Y16,[],some (81,[27,3])⟩] d
def E_walk_inPage:Entry:=⟨44,[.p,.p],[.val Y10,.val (.int .i64)],[⟨Y16,[],some (81,[27,3])⟩],F_walk_inPage⟩
theorem zhD:Snd E_walk_inPage:=zah zal zaf sn (fn:=Tryz.f44) (by kernel_rfl) (by kernel_rfl) (F:=F_walk_inPage) rfl (.of_bare rfl)
end Go.VI
