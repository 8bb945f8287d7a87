import Derived.Test.YtdlhcoilcnbfkaaGreatQ01
import Derived.Test.YtdlhcoilcnbfkaaGreatQ02
import Derived.Test.YtdlhcoilcnbfkaaGreatProg
set_option linter.unusedSimpArgs false
set_option linter.unusedVariables false
set_option maxRecDepth 100000
set_option maxHeartbeats 4000000
namespace Go.VI
def te:TE:=[
 ⟨1,(.raw .fn),0,[],8,false,none⟩,
 ⟨2,(.int .i64),0,[],8,true,none⟩,
 ⟨3,(.int .i64),0,[],8,true,none⟩,
 ⟨4,.bool,0,[],1,true,none⟩,
 ⟨5,(.int .u8),0,[],1,true,none⟩,
 ⟨6,(.int .u8),0,[],1,true,none⟩,
 ⟨7,(.prod (.int .i64) (.prod (.int .i64) (.prod .bool (.prod (.int .u8) .unit)))),0,[(0,(.int .i64)),(1,(.int .i64)),(2,.bool),(3,(.int .u8))],24,true,none⟩,
 ⟨8,(.prod (.int .i64) (.prod (.int .i64) (.prod .bool (.prod (.int .u8) .unit)))),0,[(0,(.int .i64)),(1,(.int .i64)),(2,.bool),(3,(.int .u8))],24,true,none⟩,
 ⟨12,(.int .u64),0,[],8,true,none⟩,
 ⟨18,(.prod (.raw .ptr) .unit),0,[(0,(.raw .ptr))],8,false,none⟩,
 ⟨19,(.prod (.raw .ptr) .unit),0,[(0,(.raw .ptr))],8,false,none⟩,
 ⟨20,(.ifo 132 (.prod (.prod (.prod (.int .i64) (.prod (.int .i64) .unit)) (.prod (.slice (.int .u64)) (.prod (.slice (.prod (.int .i64) (.prod (.int .i64) (.prod (.int .i64) (.prod (.int .i64) .unit))))) (.prod (.int .i64) (.prod (.int .i64) .unit))))) (.prod (.int .u64) .unit))),0,[],16,false,none⟩,
 ⟨21,(.int .i32),0,[],4,true,none⟩,
 ⟨22,(.prod (.int .i64) (.prod (.int .i64) .unit)),0,[(0,(.int .i64)),(1,(.int .i64))],16,true,none⟩,
 ⟨23,(.prod (.int .i64) (.prod (.int .i64) .unit)),0,[(0,(.int .i64)),(1,(.int .i64))],16,true,none⟩,
 ⟨24,(.slice (.int .u64)),37,[],8,false,none⟩,
 ⟨25,(.slice (.prod (.int .i64) (.prod (.int .i64) (.prod (.int .i64) (.prod (.int .i64) .unit))))),63,[],32,false,none⟩,
 ⟨26,(.prod (.prod (.int .i64) (.prod (.int .i64) .unit)) (.prod (.slice (.int .u64)) (.prod (.slice (.prod (.int .i64) (.prod (.int .i64) (.prod (.int .i64) (.prod (.int .i64) .unit))))) (.prod (.int .i64) (.prod (.int .i64) .unit))))),0,[(0,(.prod (.int .i64) (.prod (.int .i64) .unit))),(2,(.slice (.int .u64))),(3,(.slice (.prod (.int .i64) (.prod (.int .i64) (.prod (.int .i64) (.prod (.int .i64) .unit)))))),(4,(.int .i64)),(5,(.int .i64))],80,false,none⟩,
 ⟨27,(.prod (.prod (.int .i64) (.prod (.int .i64) .unit)) (.prod (.slice (.int .u64)) (.prod (.slice (.prod (.int .i64) (.prod (.int .i64) (.prod (.int .i64) (.prod (.int .i64) .unit))))) (.prod (.int .i64) (.prod (.int .i64) .unit))))),0,[(0,(.prod (.int .i64) (.prod (.int .i64) .unit))),(2,(.slice (.int .u64))),(3,(.slice (.prod (.int .i64) (.prod (.int .i64) (.prod (.int .i64) (.prod (.int .i64) .unit)))))),(4,(.int .i64)),(5,(.int .i64))],80,false,none⟩,
 ⟨28,(.slice (.int .i64)),3,[],8,false,none⟩,
 ⟨29,(.slice (.prod (.prod (.int .i64) (.prod (.int .i64) .unit)) (.prod (.slice (.int .u64)) (.prod (.slice (.prod (.int .i64) (.prod (.int .i64) (.prod (.int .i64) (.prod (.int .i64) .unit))))) (.prod (.int .i64) (.prod (.int .i64) .unit)))))),27,[],80,false,none⟩,
 ⟨30,(.raw .fn),0,[],8,false,none⟩,
 ⟨31,(.int .i64),0,[],8,true,none⟩,
 ⟨33,(.raw .fn),0,[],8,false,none⟩,
 ⟨34,(.raw .fn),0,[],8,false,none⟩,
 ⟨35,(.raw .fn),0,[],8,false,none⟩,
 ⟨36,(.raw .fn),0,[],8,false,none⟩,
 ⟨37,(.int .u64),0,[],8,true,none⟩,
 ⟨38,(.raw .fn),0,[],8,false,none⟩,
 ⟨39,(.raw .fn),0,[],8,false,none⟩,
 ⟨40,(.raw .fn),0,[],8,false,none⟩,
 ⟨41,(.prod (.int .i64) (.prod (.int .i64) (.prod (.int .i64) (.prod (.int .i64) (.prod (.int .i64) .unit))))),0,[(0,(.int .i64)),(1,(.int .i64)),(2,(.int .i64)),(3,(.int .i64)),(4,(.int .i64))],40,true,none⟩,
 ⟨42,(.prod (.int .i64) (.prod (.int .i64) (.prod (.int .i64) (.prod (.int .i64) (.prod (.int .i64) .unit))))),0,[(0,(.int .i64)),(1,(.int .i64)),(2,(.int .i64)),(3,(.int .i64)),(4,(.int .i64))],40,true,none⟩,
 ⟨44,(.raw .fn),0,[],8,false,none⟩,
 ⟨45,(.prod (.int .i64) (.prod (.int .i64) (.prod (.int .i64) (.prod (.int .i64) (.prod (.int .i64) .unit))))),0,[(0,(.int .i64)),(1,(.int .i64)),(2,(.int .i64)),(3,(.int .i64)),(4,(.int .i64))],40,true,none⟩,
 ⟨47,(.raw .fn),0,[],8,false,none⟩,
 ⟨48,(.raw .fn),0,[],8,false,none⟩,
 ⟨50,(.raw .fn),0,[],8,false,none⟩,
 ⟨51,(.raw .fn),0,[],8,false,none⟩,
 ⟨52,(.raw .fn),0,[],8,false,none⟩,
 ⟨53,(.prod (.prod (.prod (.int .i64) (.prod (.int .i64) .unit)) (.prod (.slice (.int .u64)) (.prod (.slice (.prod (.int .i64) (.prod (.int .i64) (.prod (.int .i64) (.prod (.int .i64) .unit))))) (.prod (.int .i64) (.prod (.int .i64) .unit))))) (.prod (.slice (.int .u64)) (.prod (.slice (.int .u64)) .unit))),0,[(0,(.prod (.prod (.int .i64) (.prod (.int .i64) .unit)) (.prod (.slice (.int .u64)) (.prod (.slice (.prod (.int .i64) (.prod (.int .i64) (.prod (.int .i64) (.prod (.int .i64) .unit))))) (.prod (.int .i64) (.prod (.int .i64) .unit)))))),(6,(.slice (.int .u64))),(7,(.slice (.int .u64)))],128,false,none⟩,
 ⟨54,(.prod (.prod (.prod (.int .i64) (.prod (.int .i64) .unit)) (.prod (.slice (.int .u64)) (.prod (.slice (.prod (.int .i64) (.prod (.int .i64) (.prod (.int .i64) (.prod (.int .i64) .unit))))) (.prod (.int .i64) (.prod (.int .i64) .unit))))) (.prod (.slice (.int .u64)) (.prod (.slice (.int .u64)) .unit))),0,[(0,(.prod (.prod (.int .i64) (.prod (.int .i64) .unit)) (.prod (.slice (.int .u64)) (.prod (.slice (.prod (.int .i64) (.prod (.int .i64) (.prod (.int .i64) (.prod (.int .i64) .unit))))) (.prod (.int .i64) (.prod (.int .i64) .unit)))))),(6,(.slice (.int .u64))),(7,(.slice (.int .u64)))],128,false,none⟩,
 ⟨55,(.raw .fn),0,[],8,false,none⟩,
 ⟨56,(.int .u32),0,[],4,true,none⟩,
 ⟨57,(.prod (.int .i64) (.prod (.int .i64) (.prod (.int .u32) .unit))),0,[(0,(.int .i64)),(1,(.int .i64)),(2,(.int .u32))],24,true,none⟩,
 ⟨58,(.prod (.int .i64) (.prod (.int .i64) (.prod (.int .u32) .unit))),0,[(0,(.int .i64)),(1,(.int .i64)),(2,(.int .u32))],24,true,none⟩,
 ⟨60,(.raw .fn),0,[],8,false,none⟩,
 ⟨61,(.raw .fn),0,[],8,false,none⟩,
 ⟨62,(.prod (.int .i64) (.prod (.int .i64) (.prod (.int .i64) (.prod (.int .i64) .unit)))),0,[(0,(.int .i64)),(1,(.int .i64)),(2,(.int .i64)),(3,(.int .i64))],32,true,none⟩,
 ⟨63,(.prod (.int .i64) (.prod (.int .i64) (.prod (.int .i64) (.prod (.int .i64) .unit)))),0,[(0,(.int .i64)),(1,(.int .i64)),(2,(.int .i64)),(3,(.int .i64))],32,true,none⟩,
 ⟨64,(.raw .fn),0,[],8,false,none⟩,
 ⟨65,(.raw .fn),0,[],8,false,none⟩,
 ⟨67,(.prod (.slice (.int .i64)) (.prod (.int .i64) .unit)),0,[(0,(.slice (.int .i64))),(1,(.int .i64))],32,false,none⟩,
 ⟨68,(.prod (.slice (.int .i64)) (.prod (.int .i64) .unit)),0,[(0,(.slice (.int .i64))),(1,(.int .i64))],32,false,none⟩,
 ⟨69,(.raw .fn),0,[],8,false,none⟩,
 ⟨70,(.raw .fn),0,[],8,false,none⟩,
 ⟨71,(.raw .fn),0,[],8,false,none⟩,
 ⟨72,(.slice (.prod (.int .i64) (.prod (.int .i64) (.prod (.int .u32) .unit)))),58,[],24,false,none⟩,
 ⟨74,(.raw .fn),0,[],8,false,none⟩,
 ⟨75,(.raw .fn),0,[],8,false,none⟩,
 ⟨76,(.raw .fn),0,[],8,false,none⟩,
 ⟨77,(.raw .fn),0,[],8,false,none⟩,
 ⟨78,(.raw .fn),0,[],8,false,none⟩,
 ⟨79,(.raw .fn),0,[],8,false,none⟩,
 ⟨80,(.raw .fn),0,[],8,false,none⟩,
 ⟨81,(.raw .fn),0,[],8,false,none⟩,
 ⟨83,(.raw .fn),0,[],8,false,none⟩,
 ⟨84,(.slice (.prod (.prod (.prod (.int .i64) (.prod (.int .i64) .unit)) (.prod (.slice (.int .u64)) (.prod (.slice (.prod (.int .i64) (.prod (.int .i64) (.prod (.int .i64) (.prod (.int .i64) .unit))))) (.prod (.int .i64) (.prod (.int .i64) .unit))))) (.prod (.slice (.int .u64)) (.prod (.slice (.int .u64)) .unit)))),54,[],128,false,none⟩,
 ⟨85,(.raw .fn),0,[],8,false,none⟩,
 ⟨86,(.raw .fn),0,[],8,false,none⟩,
 ⟨87,(.slice (.prod (.prod (.int .i64) (.prod (.int .i64) (.prod (.int .u32) .unit))) (.prod (.slice (.int .u64)) .unit))),151,[],48,false,none⟩,
 ⟨88,(.prod (.slice (.int .i64)) (.prod (.slice (.prod (.prod (.int .i64) (.prod (.int .i64) (.prod (.int .u32) .unit))) (.prod (.slice (.int .u64)) .unit))) .unit)),0,[(0,(.slice (.int .i64))),(1,(.slice (.prod (.prod (.int .i64) (.prod (.int .i64) (.prod (.int .u32) .unit))) (.prod (.slice (.int .u64)) .unit))))],48,false,none⟩,
 ⟨89,(.prod (.slice (.int .i64)) (.prod (.slice (.prod (.prod (.int .i64) (.prod (.int .i64) (.prod (.int .u32) .unit))) (.prod (.slice (.int .u64)) .unit))) .unit)),0,[(0,(.slice (.int .i64))),(1,(.slice (.prod (.prod (.int .i64) (.prod (.int .i64) (.prod (.int .u32) .unit))) (.prod (.slice (.int .u64)) .unit))))],48,false,none⟩,
 ⟨91,(.raw .fn),0,[],8,false,none⟩,
 ⟨92,(.slice (.prod (.prod (.int .i64) (.prod (.int .i64) (.prod (.int .u32) .unit))) (.prod (.slice (.int .u64)) .unit))),155,[],48,false,none⟩,
 ⟨93,(.prod (.slice (.int .i64)) (.prod (.slice (.prod (.prod (.int .i64) (.prod (.int .i64) (.prod (.int .u32) .unit))) (.prod (.slice (.int .u64)) .unit))) .unit)),0,[(0,(.slice (.int .i64))),(1,(.slice (.prod (.prod (.int .i64) (.prod (.int .i64) (.prod (.int .u32) .unit))) (.prod (.slice (.int .u64)) .unit))))],48,false,none⟩,
 ⟨94,(.prod (.slice (.int .i64)) (.prod (.slice (.prod (.prod (.int .i64) (.prod (.int .i64) (.prod (.int .u32) .unit))) (.prod (.slice (.int .u64)) .unit))) .unit)),0,[(0,(.slice (.int .i64))),(1,(.slice (.prod (.prod (.int .i64) (.prod (.int .i64) (.prod (.int .u32) .unit))) (.prod (.slice (.int .u64)) .unit))))],48,false,none⟩,
 ⟨96,(.raw .fn),0,[],8,false,none⟩,
 ⟨97,(.raw .fn),0,[],8,false,none⟩,
 ⟨98,(.raw .fn),0,[],8,false,none⟩,
 ⟨99,(.raw .fn),0,[],8,false,none⟩,
 ⟨100,(.raw .fn),0,[],8,false,none⟩,
 ⟨101,(.raw .fn),0,[],8,false,none⟩,
 ⟨102,(.raw .fn),0,[],8,false,none⟩,
 ⟨103,(.prod (.int .i64) (.prod (.int .i64) (.prod (.int .u64) .unit))),0,[(0,(.int .i64)),(1,(.int .i64)),(2,(.int .u64))],24,true,none⟩,
 ⟨104,(.prod (.int .i64) (.prod (.int .i64) (.prod (.int .u64) .unit))),0,[(0,(.int .i64)),(1,(.int .i64)),(2,(.int .u64))],24,true,none⟩,
 ⟨105,(.raw .fn),0,[],8,false,none⟩,
 ⟨106,(.prod (.int .i64) (.prod (.int .i64) (.prod (.int .u64) .unit))),0,[(0,(.int .i64)),(1,(.int .i64)),(2,(.int .u64))],24,true,none⟩,
 ⟨107,(.raw .fn),0,[],8,false,none⟩,
 ⟨108,(.raw .fn),0,[],8,false,none⟩,
 ⟨109,(.raw .fn),0,[],8,false,none⟩,
 ⟨110,(.raw .fn),0,[],8,false,none⟩,
 ⟨111,(.raw .fn),0,[],8,false,none⟩,
 ⟨112,(.raw .fn),0,[],8,false,none⟩,
 ⟨113,(.raw .fn),0,[],8,false,none⟩,
 ⟨114,(.raw .fn),0,[],8,false,none⟩,
 ⟨116,(.raw .fn),0,[],8,false,none⟩,
 ⟨117,(.raw .fn),0,[],8,false,none⟩,
 ⟨118,(.raw .fn),0,[],8,false,none⟩,
 ⟨119,(.prod (.prod (.int .i64) (.prod (.int .i64) (.prod (.int .u32) .unit))) (.prod (.int .i64) .unit)),0,[(0,(.prod (.int .i64) (.prod (.int .i64) (.prod (.int .u32) .unit)))),(3,(.int .i64))],32,true,none⟩,
 ⟨120,(.prod (.prod (.int .i64) (.prod (.int .i64) (.prod (.int .u32) .unit))) (.prod (.int .i64) .unit)),0,[(0,(.prod (.int .i64) (.prod (.int .i64) (.prod (.int .u32) .unit)))),(3,(.int .i64))],32,true,none⟩,
 ⟨121,(.raw .fn),0,[],8,false,none⟩,
 ⟨122,(.raw .fn),0,[],8,false,none⟩,
 ⟨123,(.raw .fn),0,[],8,false,none⟩,
 ⟨124,(.raw .fn),0,[],8,false,none⟩,
 ⟨125,(.raw .fn),0,[],8,false,none⟩,
 ⟨127,(.raw .fn),0,[],8,false,none⟩,
 ⟨128,(.raw .fn),0,[],8,false,none⟩,
 ⟨129,(.int .u64),0,[],8,true,none⟩,
 ⟨130,(.raw .fn),0,[],8,false,none⟩,
 ⟨131,(.prod (.prod (.prod (.int .i64) (.prod (.int .i64) .unit)) (.prod (.slice (.int .u64)) (.prod (.slice (.prod (.int .i64) (.prod (.int .i64) (.prod (.int .i64) (.prod (.int .i64) .unit))))) (.prod (.int .i64) (.prod (.int .i64) .unit))))) (.prod (.int .u64) .unit)),0,[(0,(.prod (.prod (.int .i64) (.prod (.int .i64) .unit)) (.prod (.slice (.int .u64)) (.prod (.slice (.prod (.int .i64) (.prod (.int .i64) (.prod (.int .i64) (.prod (.int .i64) .unit))))) (.prod (.int .i64) (.prod (.int .i64) .unit)))))),(6,(.int .u64))],88,false,none⟩,
 ⟨132,(.prod (.prod (.prod (.int .i64) (.prod (.int .i64) .unit)) (.prod (.slice (.int .u64)) (.prod (.slice (.prod (.int .i64) (.prod (.int .i64) (.prod (.int .i64) (.prod (.int .i64) .unit))))) (.prod (.int .i64) (.prod (.int .i64) .unit))))) (.prod (.int .u64) .unit)),0,[(0,(.prod (.prod (.int .i64) (.prod (.int .i64) .unit)) (.prod (.slice (.int .u64)) (.prod (.slice (.prod (.int .i64) (.prod (.int .i64) (.prod (.int .i64) (.prod (.int .i64) .unit))))) (.prod (.int .i64) (.prod (.int .i64) .unit)))))),(6,(.int .u64))],88,false,none⟩,
 ⟨134,(.raw .fn),0,[],8,false,none⟩,
 ⟨135,(.raw .fn),0,[],8,false,none⟩,
 ⟨137,(.raw .fn),0,[],8,false,none⟩,
 ⟨138,(.raw .fn),0,[],8,false,none⟩,
 ⟨139,(.raw .fn),0,[],8,false,none⟩,
 ⟨140,(.raw .fn),0,[],8,false,none⟩,
 ⟨141,(.raw .map),0,[],8,false,none⟩,
 ⟨142,(.prod (.slice (.int .u64)) (.prod (.slice (.prod (.prod (.int .i64) (.prod (.int .i64) (.prod (.int .u32) .unit))) (.prod (.slice (.int .u64)) .unit))) (.prod (.raw .map) .unit))),0,[(0,(.slice (.int .u64))),(1,(.slice (.prod (.prod (.int .i64) (.prod (.int .i64) (.prod (.int .u32) .unit))) (.prod (.slice (.int .u64)) .unit)))),(2,(.raw .map))],56,false,none⟩,
 ⟨143,(.prod (.slice (.int .u64)) (.prod (.slice (.prod (.prod (.int .i64) (.prod (.int .i64) (.prod (.int .u32) .unit))) (.prod (.slice (.int .u64)) .unit))) (.prod (.raw .map) .unit))),0,[(0,(.slice (.int .u64))),(1,(.slice (.prod (.prod (.int .i64) (.prod (.int .i64) (.prod (.int .u32) .unit))) (.prod (.slice (.int .u64)) .unit)))),(2,(.raw .map))],56,false,none⟩,
 ⟨145,(.raw .fn),0,[],8,false,none⟩,
 ⟨147,(.raw .fn),0,[],8,false,none⟩,
 ⟨148,(.raw .fn),0,[],8,false,none⟩,
 ⟨149,(.raw .fn),0,[],8,false,none⟩,
 ⟨150,(.prod (.prod (.int .i64) (.prod (.int .i64) (.prod (.int .u32) .unit))) (.prod (.slice (.int .u64)) .unit)),0,[(0,(.prod (.int .i64) (.prod (.int .i64) (.prod (.int .u32) .unit)))),(3,(.slice (.int .u64)))],48,false,none⟩,
 ⟨151,(.prod (.prod (.int .i64) (.prod (.int .i64) (.prod (.int .u32) .unit))) (.prod (.slice (.int .u64)) .unit)),0,[(0,(.prod (.int .i64) (.prod (.int .i64) (.prod (.int .u32) .unit)))),(3,(.slice (.int .u64)))],48,false,none⟩,
 ⟨152,(.raw .fn),0,[],8,false,none⟩,
 ⟨153,(.raw .fn),0,[],8,false,none⟩,
 ⟨154,(.raw .fn),0,[],8,false,none⟩,
 ⟨155,(.prod (.prod (.int .i64) (.prod (.int .i64) (.prod (.int .u32) .unit))) (.prod (.slice (.int .u64)) .unit)),0,[(0,(.prod (.int .i64) (.prod (.int .i64) (.prod (.int .u32) .unit)))),(3,(.slice (.int .u64)))],48,false,none⟩,
 ⟨156,(.raw .fn),0,[],8,false,none⟩,
 ⟨157,(.raw .fn),0,[],8,false,none⟩,
 ⟨158,(.raw .fn),0,[],8,false,none⟩,
 ⟨159,(.raw .fn),0,[],8,false,none⟩,
 ⟨160,(.raw .fn),0,[],8,false,none⟩,
 ⟨161,(.raw .fn),0,[],8,false,none⟩,
 ⟨162,(.raw .fn),0,[],8,false,none⟩,
 ⟨163,(.raw .fn),0,[],8,false,none⟩,
 ⟨164,(.raw .fn),0,[],8,false,none⟩,
 ⟨165,(.prod (.prod (.int .i64) (.prod (.int .i64) .unit)) (.prod (.slice (.prod (.int .i64) (.prod (.int .i64) (.prod (.int .i64) (.prod (.int .i64) .unit))))) .unit)),0,[(0,(.prod (.int .i64) (.prod (.int .i64) .unit))),(2,(.slice (.prod (.int .i64) (.prod (.int .i64) (.prod (.int .i64) (.prod (.int .i64) .unit))))))],40,false,none⟩,
 ⟨166,(.prod (.prod (.int .i64) (.prod (.int .i64) .unit)) (.prod (.slice (.prod (.int .i64) (.prod (.int .i64) (.prod (.int .i64) (.prod (.int .i64) .unit))))) .unit)),0,[(0,(.prod (.int .i64) (.prod (.int .i64) .unit))),(2,(.slice (.prod (.int .i64) (.prod (.int .i64) (.prod (.int .i64) (.prod (.int .i64) .unit))))))],40,false,none⟩,
 ⟨167,(.raw .fn),0,[],8,false,none⟩,
 ⟨168,(.raw .fn),0,[],8,false,none⟩,
 ⟨169,(.raw .fn),0,[],8,false,none⟩,
 ⟨170,(.raw .fn),0,[],8,false,none⟩,
 ⟨171,(.raw .fn),0,[],8,false,none⟩,
 ⟨172,(.raw .fn),0,[],8,false,none⟩,
 ⟨173,(.raw .fn),0,[],8,false,none⟩,
 ⟨175,(.raw .fn),0,[],8,false,none⟩,
 ⟨176,(.raw .fn),0,[],8,false,none⟩,
 ⟨177,(.raw .fn),0,[],8,false,none⟩,
 ⟨179,(.raw .fn),0,[],8,false,none⟩,
 ⟨180,(.raw .fn),0,[],8,false,none⟩,
 ⟨182,(.raw .fn),0,[],8,false,none⟩,
 ⟨183,(.raw .fn),0,[],8,false,none⟩,
 ⟨184,(.raw .fn),0,[],8,false,none⟩,
 ⟨186,(.raw .fn),0,[],8,false,none⟩,
 ⟨187,(.raw .fn),0,[],8,false,none⟩,
 ⟨188,(.slice (.prod (.int .u64) (.prod (.prod (.int .i64) (.prod (.int .i64) (.prod (.int .u32) .unit))) .unit))),223,[],32,false,none⟩,
 ⟨190,(.raw .fn),0,[],8,false,none⟩,
 ⟨191,(.raw .fn),0,[],8,false,none⟩,
 ⟨192,(.slice (.prod (.int .i64) (.prod (.int .i64) (.prod (.int .u64) .unit)))),104,[],24,false,none⟩,
 ⟨193,(.raw .fn),0,[],8,false,none⟩,
 ⟨194,(.raw .fn),0,[],8,false,none⟩,
 ⟨195,(.raw .fn),0,[],8,false,none⟩,
 ⟨196,(.raw .fn),0,[],8,false,none⟩,
 ⟨197,(.raw .fn),0,[],8,false,none⟩,
 ⟨198,(.raw .fn),0,[],8,false,none⟩,
 ⟨199,(.raw .fn),0,[],8,false,none⟩,
 ⟨200,(.raw .fn),0,[],8,false,none⟩,
 ⟨201,(.prod (.raw .fn) (.prod (.raw .fn) (.prod (.raw .fn) (.prod (.raw .fn) .unit)))),200,[(0,(.raw .fn)),(1,(.raw .fn)),(2,(.raw .fn)),(3,(.raw .fn))],32,false,some (4,(.raw .fn))⟩,
 ⟨202,(.raw .fn),0,[],8,false,none⟩,
 ⟨203,(.raw .fn),0,[],8,false,none⟩,
 ⟨204,(.raw .fn),0,[],8,false,none⟩,
 ⟨205,(.raw .fn),0,[],8,false,none⟩,
 ⟨206,(.raw .fn),0,[],8,false,none⟩,
 ⟨207,(.prod (.int .i64) (.prod (.int .u64) .unit)),0,[(0,(.int .i64)),(1,(.int .u64))],16,true,none⟩,
 ⟨208,(.prod (.int .i64) (.prod (.int .u64) .unit)),0,[(0,(.int .i64)),(1,(.int .u64))],16,true,none⟩,
 ⟨209,(.slice (.prod (.int .i64) (.prod (.int .u64) .unit))),208,[],16,false,none⟩,
 ⟨210,(.raw .fn),0,[],8,false,none⟩,
 ⟨212,(.prod (.int .i64) (.prod (.int .i64) (.prod (.int .i64) (.prod (.int .i64) (.prod (.int .i64) (.prod (.int .i64) .unit)))))),0,[(0,(.int .i64)),(1,(.int .i64)),(2,(.int .i64)),(3,(.int .i64)),(4,(.int .i64)),(5,(.int .i64))],48,true,none⟩,
 ⟨213,(.prod (.int .i64) (.prod (.int .i64) (.prod (.int .i64) (.prod (.int .i64) (.prod (.int .i64) (.prod (.int .i64) .unit)))))),0,[(0,(.int .i64)),(1,(.int .i64)),(2,(.int .i64)),(3,(.int .i64)),(4,(.int .i64)),(5,(.int .i64))],48,true,none⟩,
 ⟨215,(.raw .fn),0,[],8,false,none⟩,
 ⟨216,(.raw .fn),0,[],8,false,none⟩,
 ⟨217,(.slice (.prod (.int .i64) (.prod (.int .i64) .unit))),220,[],16,false,none⟩,
 ⟨218,(.raw .fn),0,[],8,false,none⟩,
 ⟨219,(.prod (.int .i64) (.prod (.int .i64) .unit)),0,[(0,(.int .i64)),(1,(.int .i64))],16,true,none⟩,
 ⟨220,(.prod (.int .i64) (.prod (.int .i64) .unit)),0,[(0,(.int .i64)),(1,(.int .i64))],16,true,none⟩,
 ⟨221,(.raw .fn),0,[],8,false,none⟩,
 ⟨222,(.prod (.int .u64) (.prod (.prod (.int .i64) (.prod (.int .i64) (.prod (.int .u32) .unit))) .unit)),0,[(0,(.int .u64)),(1,(.prod (.int .i64) (.prod (.int .i64) (.prod (.int .u32) .unit))))],32,true,none⟩,
 ⟨223,(.prod (.int .u64) (.prod (.prod (.int .i64) (.prod (.int .i64) (.prod (.int .u32) .unit))) .unit)),0,[(0,(.int .u64)),(1,(.prod (.int .i64) (.prod (.int .i64) (.prod (.int .u32) .unit))))],32,true,none⟩,
 ⟨224,(.raw .fn),0,[],8,false,none⟩,
 ⟨226,(.raw .fn),0,[],8,false,none⟩,
 ⟨227,(.raw .fn),0,[],8,false,none⟩,
 ⟨228,(.slice .bool),4,[],1,false,none⟩,
 ⟨229,(.raw .fn),0,[],8,false,none⟩,
 ⟨230,(.raw .fn),0,[],8,false,none⟩,
 ⟨231,(.raw .fn),0,[],8,false,none⟩,
 ⟨232,(.raw .fn),0,[],8,false,none⟩,
 ⟨233,(.raw .fn),0,[],8,false,none⟩,
 ⟨234,(.raw .fn),0,[],8,false,none⟩,
 ⟨235,(.raw .fn),0,[],8,false,none⟩,
 ⟨236,(.prod (.prod (.prod (.int .i64) (.prod (.int .i64) .unit)) (.prod (.slice (.int .u64)) (.prod (.slice (.prod (.int .i64) (.prod (.int .i64) (.prod (.int .i64) (.prod (.int .i64) .unit))))) (.prod (.int .i64) (.prod (.int .i64) .unit))))) (.prod (.slice (.int .u64)) (.prod (.slice (.int .i64)) (.prod (.slice (.int .u64)) (.prod (.int .i64) (.prod (.prod (.int .i64) (.prod (.int .i64) (.prod (.int .i64) (.prod (.int .i64) (.prod (.int .i64) (.prod (.int .i64) .unit)))))) .unit)))))),0,[(0,(.prod (.prod (.int .i64) (.prod (.int .i64) .unit)) (.prod (.slice (.int .u64)) (.prod (.slice (.prod (.int .i64) (.prod (.int .i64) (.prod (.int .i64) (.prod (.int .i64) .unit))))) (.prod (.int .i64) (.prod (.int .i64) .unit)))))),(6,(.slice (.int .u64))),(7,(.slice (.int .i64))),(8,(.slice (.int .u64))),(9,(.int .i64)),(10,(.prod (.int .i64) (.prod (.int .i64) (.prod (.int .i64) (.prod (.int .i64) (.prod (.int .i64) (.prod (.int .i64) .unit)))))))],208,false,none⟩,
 ⟨237,(.prod (.prod (.prod (.int .i64) (.prod (.int .i64) .unit)) (.prod (.slice (.int .u64)) (.prod (.slice (.prod (.int .i64) (.prod (.int .i64) (.prod (.int .i64) (.prod (.int .i64) .unit))))) (.prod (.int .i64) (.prod (.int .i64) .unit))))) (.prod (.slice (.int .u64)) (.prod (.slice (.int .i64)) (.prod (.slice (.int .u64)) (.prod (.int .i64) (.prod (.prod (.int .i64) (.prod (.int .i64) (.prod (.int .i64) (.prod (.int .i64) (.prod (.int .i64) (.prod (.int .i64) .unit)))))) .unit)))))),0,[(0,(.prod (.prod (.int .i64) (.prod (.int .i64) .unit)) (.prod (.slice (.int .u64)) (.prod (.slice (.prod (.int .i64) (.prod (.int .i64) (.prod (.int .i64) (.prod (.int .i64) .unit))))) (.prod (.int .i64) (.prod (.int .i64) .unit)))))),(6,(.slice (.int .u64))),(7,(.slice (.int .i64))),(8,(.slice (.int .u64))),(9,(.int .i64)),(10,(.prod (.int .i64) (.prod (.int .i64) (.prod (.int .i64) (.prod (.int .i64) (.prod (.int .i64) (.prod (.int .i64) .unit)))))))],208,false,none⟩,
 ⟨239,(.raw .fn),0,[],8,false,none⟩,
 ⟨241,(.raw .fn),0,[],8,false,none⟩,
 ⟨242,(.raw .fn),0,[],8,false,none⟩,
 ⟨243,(.raw .fn),0,[],8,false,none⟩,
 ⟨244,(.raw .fn),0,[],8,false,none⟩,
 ⟨245,(.raw .fn),0,[],8,false,none⟩,
 ⟨247,(.raw .fn),0,[],8,false,none⟩,
 ⟨249,(.raw .fn),0,[],8,false,none⟩,
 ⟨251,(.raw .fn),0,[],8,false,none⟩,
 ⟨253,(.raw .fn),0,[],8,false,none⟩,
 ⟨254,(.raw .fn),0,[],8,false,none⟩,
 ⟨255,(.raw .fn),0,[],8,false,none⟩,
 ⟨256,(.raw .fn),0,[],8,false,none⟩,
 ⟨258,(.raw .fn),0,[],8,false,none⟩,
 ⟨259,(.raw .fn),0,[],8,false,none⟩,
 ⟨260,(.raw .fn),0,[],8,false,none⟩,
 ⟨266,(.raw .fn),0,[],8,false,none⟩,
 ⟨267,(.int .u8),0,[],1,true,none⟩,
 ⟨268,(.int .u8),0,[],1,true,none⟩,
 ⟨269,(.raw .fn),0,[],8,false,none⟩,
 ⟨271,(.int .i32),0,[],4,true,none⟩,
 ⟨272,(.int .i32),0,[],4,true,none⟩,
 ⟨273,(.prod (.int .u64) (.prod (.int .u64) (.prod (.int .u32) (.prod (.int .u8) (.prod (.int .u8) (.prod (.int .u8) (.prod (.int .u8) (.prod (.raw .fn) (.prod (.raw .ptr) (.prod (.int .i32) (.prod (.int .i32) .unit))))))))))),0,[(0,(.int .u64)),(1,(.int .u64)),(2,(.int .u32)),(3,(.int .u8)),(4,(.int .u8)),(5,(.int .u8)),(6,(.int .u8)),(7,(.raw .fn)),(8,(.raw .ptr)),(9,(.int .i32)),(10,(.int .i32))],48,false,none⟩,
 ⟨274,(.prod (.int .u64) (.prod (.int .u64) (.prod (.int .u32) (.prod (.int .u8) (.prod (.int .u8) (.prod (.int .u8) (.prod (.int .u8) (.prod (.raw .fn) (.prod (.raw .ptr) (.prod (.int .i32) (.prod (.int .i32) .unit))))))))))),0,[(0,(.int .u64)),(1,(.int .u64)),(2,(.int .u32)),(3,(.int .u8)),(4,(.int .u8)),(5,(.int .u8)),(6,(.int .u8)),(7,(.raw .fn)),(8,(.raw .ptr)),(9,(.int .i32)),(10,(.int .i32))],48,false,none⟩]
end Go.VI
namespace Go.VI
open Go Go.Proofs
theorem mix_ok:Tryz.prog.follows .mixedOrders=true:=by kernel_rfl
theorem te_ok:TEok Tryz.prog te:=.of (by kernel_rfl)
abbrev Snd (E:Entry):Prop:=Enters Tryz.prog E.f/\E.Sound Tryz.prog
theorem sc {E:Entry} {tbl:Tbl} (h:Snd E) (h3:Tbl.Sound Tryz.prog tbl):Tbl.Sound Tryz.prog (E.ent :: tbl):=Tbl.sound_cons h.1 h.2 h3
theorem sn:Tbl.Sound Tryz.prog []:=Tbl.sound_nil
noncomputable abbrev FT (tbl:Tbl) (ann:Ann) (k:Nat) (fn:Func) (sh:List AP) (ps:List PTy) (rs:List RTy) (d:Pden ps):Option (Rden rs × Oden ps):=(funT te tbl ann k (bodyOf fn) fn.results.toList sh ps rs d).ev
@[reducible] def Y0:Ty:=.slice (.int .i64)
@[reducible] def Y1:Ty:=.prod (.int .i64) .unit
@[reducible] def Y2:Ty:=.prod Y0 Y1
@[reducible] def Y3:Ty:=.prod (.int .i64) Y1
@[reducible] def Y4:Ty:=.slice (.int .u64)
@[reducible] def Y5:Ty:=.prod (.int .i64) Y3
@[reducible] def Y6:Ty:=.prod (.int .i64) Y5
@[reducible] def Y7:Ty:=.slice Y6
@[reducible] def Y8:Ty:=.prod Y7 Y3
@[reducible] def Y9:Ty:=.prod Y4 Y8
@[reducible] def Y10:Ty:=.prod Y3 Y9
@[reducible] def Y11:Ty:=.prod Y4 .unit
@[reducible] def Y12:Ty:=.prod Y4 Y11
@[reducible] def Y13:Ty:=.prod Y10 Y12
@[reducible] def Y14:Ty:=.prod (.int .u32) .unit
@[reducible] def Y15:Ty:=.prod (.int .i64) Y14
@[reducible] def Y16:Ty:=.prod (.int .i64) Y15
@[reducible] def Y17:Ty:=.slice Y3
@[reducible] def Y18:Ty:=.slice .bool
@[reducible] def Y19:Ty:=.prod (.int .u64) .unit
@[reducible] def Y20:Ty:=.prod (.int .i64) Y19
@[reducible] def Y21:Ty:=.prod (.int .i64) Y20
@[reducible] def Y22:Ty:=.prod (.int .i64) Y6
@[reducible] def Y23:Ty:=.prod (.int .i64) Y22
@[reducible] def Y24:Ty:=.prod Y23 .unit
@[reducible] def Y25:Ty:=.prod (.int .i64) Y24
@[reducible] def Y26:Ty:=.prod Y4 Y25
@[reducible] def Y27:Ty:=.prod Y0 Y26
@[reducible] def Y28:Ty:=.prod Y4 Y27
@[reducible] def Y29:Ty:=.prod Y10 Y28
@[reducible] def Y31:Ty:=.prod Y7 .unit
@[reducible] def Y32:Ty:=.prod Y3 Y31
@[reducible] def Y33:Ty:=.prod Y10 Y19
@[reducible] def Y34:Ty:=.ifo 132 Y33
@[reducible] def Y35:Ty:=.slice Y20
noncomputable def F_made_Tape_Next (d:Pden [.ptr 68 Y2,.val (.int .i64)]):Option (Rden [⟨(.int .i64),[none],none⟩] × Oden [.ptr 68 Y2,.val (.int .i64)]):=FT [] [] 48 Tryz.f37 [.p,.p] [.ptr 68 Y2,.val (.int .i64)] [⟨(.int .i64),[none],none⟩] d
noncomputable def E_made_Tape_Next:Entry:=⟨37,[.p,.p],[.ptr 68 Y2,.val (.int .i64)],[⟨(.int .i64),[none],none⟩],F_made_Tape_Next⟩
theorem S_made_Tape_Next:Snd E_made_Tape_Next:=ent_ok te_ok mix_ok sn (fn:=Tryz.f37) (by kernel_rfl) (by kernel_rfl) (F:=F_made_Tape_Next) rfl
noncomputable def F_made_Tape_Conf (d:Pden [.ptr 68 Y2]):Option (Rden [⟨Y3,[none,none],none⟩] × Oden [.ptr 68 Y2]):=FT [E_made_Tape_Next.ent] [] 14 Tryz.f135 [.p] [.ptr 68 Y2] [⟨Y3,[none,none],none⟩] d
noncomputable def E_made_Tape_Conf:Entry:=⟨135,[.p],[.ptr 68 Y2],[⟨Y3,[none,none],none⟩],F_made_Tape_Conf⟩
theorem S_made_Tape_Conf:Snd E_made_Tape_Conf:=ent_ok te_ok mix_ok (sc S_made_Tape_Next sn) (fn:=Tryz.f135) (by kernel_rfl) (by kernel_rfl) (F:=F_made_Tape_Conf) rfl
noncomputable def F_r04_ValidConf (d:Pden [.val Y3]):Option (Rden [⟨.bool,[none],none⟩] × Oden [.val Y3]):=FT [] [] 27 Tryz.f98 [.p] [.val Y3] [⟨.bool,[none],none⟩] d
noncomputable def E_r04_ValidConf:Entry:=⟨98,[.p],[.val Y3],[⟨.bool,[none],none⟩],F_r04_ValidConf⟩
theorem S_r04_ValidConf:Snd E_r04_ValidConf:=ent_ok te_ok mix_ok sn (fn:=Tryz.f98) (by kernel_rfl) (by kernel_rfl) (F:=F_r04_ValidConf) rfl
noncomputable def F_r04_New (d:Pden [.val Y3]):Option (Rden [⟨Y10,[none,none,some 37,some 63,none,none],none⟩,⟨(.int .i64),[none],none⟩] × Oden [.val Y3]):=FT [E_r04_ValidConf.ent] [] 19 Tryz.f74 [.p] [.val Y3] [⟨Y10,[none,none,some 37,some 63,none,none],none⟩,⟨(.int .i64),[none],none⟩] d
noncomputable def E_r04_New:Entry:=⟨74,[.p],[.val Y3],[⟨Y10,[none,none,some 37,some 63,none,none],none⟩,⟨(.int .i64),[none],none⟩],F_r04_New⟩
theorem S_r04_New:Snd E_r04_New:=ent_ok te_ok mix_ok (sc S_r04_ValidConf sn) (fn:=Tryz.f74) (by kernel_rfl) (by kernel_rfl) (F:=F_r04_New) rfl
noncomputable def F_made_Tape_Empty (d:Pden [.ptr 68 Y2]):Option (Rden [⟨Y13,[none,none,some 37,some 63,none,none,none,none],none⟩] × Oden [.ptr 68 Y2]):=FT [E_made_Tape_Conf.ent,E_r04_New.ent] [] 13 Tryz.f84 [.p] [.ptr 68 Y2] [⟨Y13,[none,none,some 37,some 63,none,none,none,none],none⟩] d
noncomputable def E_made_Tape_Empty:Entry:=⟨84,[.p],[.ptr 68 Y2],[⟨Y13,[none,none,some 37,some 63,none,none,none,none],none⟩],F_made_Tape_Empty⟩
theorem S_made_Tape_Empty:Snd E_made_Tape_Empty:=ent_ok te_ok mix_ok (sc S_made_Tape_Conf (sc S_r04_New sn)) (fn:=Tryz.f84) (by kernel_rfl) (by kernel_rfl) (F:=F_made_Tape_Empty) rfl
noncomputable def F_made_Tape_Done (d:Pden [.ptr 68 Y2]):Option (Rden [⟨.bool,[none],none⟩] × Oden [.ptr 68 Y2]):=FT [] [] 13 Tryz.f85 [.p] [.ptr 68 Y2] [⟨.bool,[none],none⟩] d
noncomputable def E_made_Tape_Done:Entry:=⟨85,[.p],[.ptr 68 Y2],[⟨.bool,[none],none⟩],F_made_Tape_Done⟩
theorem S_made_Tape_Done:Snd E_made_Tape_Done:=ent_ok te_ok mix_ok sn (fn:=Tryz.f85) (by kernel_rfl) (by kernel_rfl) (F:=F_made_Tape_Done) rfl
noncomputable def F_r04_SmallWords (d:Pden [.val Y3]):Option (Rden [⟨(.int .i64),[none],none⟩] × Oden [.val Y3]):=FT [E_r04_ValidConf.ent] [] 9 Tryz.f90 [.p] [.val Y3] [⟨(.int .i64),[none],none⟩] d
noncomputable def E_r04_SmallWords:Entry:=⟨90,[.p],[.val Y3],[⟨(.int .i64),[none],none⟩],F_r04_SmallWords⟩
theorem S_r04_SmallWords:Snd E_r04_SmallWords:=ent_ok te_ok mix_ok (sc S_r04_ValidConf sn) (fn:=Tryz.f90) (by kernel_rfl) (by kernel_rfl) (F:=F_r04_SmallWords) rfl
noncomputable def F_made_Tape_Header (d:Pden [.ptr 68 Y2,.val Y3]):Option (Rden [⟨Y16,[none,none,none],none⟩] × Oden [.ptr 68 Y2,.val Y3]):=FT [E_r04_SmallWords.ent,E_made_Tape_Next.ent] [] 42 Tryz.f35 [.p,.p] [.ptr 68 Y2,.val Y3] [⟨Y16,[none,none,none],none⟩] d
noncomputable def E_made_Tape_Header:Entry:=⟨35,[.p,.p],[.ptr 68 Y2,.val Y3],[⟨Y16,[none,none,none],none⟩],F_made_Tape_Header⟩
theorem S_made_Tape_Header:Snd E_made_Tape_Header:=ent_ok te_ok mix_ok (sc S_r04_SmallWords (sc S_made_Tape_Next sn)) (fn:=Tryz.f35) (by kernel_rfl) (by kernel_rfl) (F:=F_made_Tape_Header) rfl
noncomputable def F_r04_pins (d:Pden [.val (.int .i64)]):Option (Rden [⟨.bool,[none],none⟩] × Oden [.val (.int .i64)]):=FT [] [] 9 Tryz.f126 [.p] [.val (.int .i64)] [⟨.bool,[none],none⟩] d
noncomputable def E_r04_pins:Entry:=⟨126,[.p],[.val (.int .i64)],[⟨.bool,[none],none⟩],F_r04_pins⟩
theorem S_r04_pins:Snd E_r04_pins:=ent_ok te_ok mix_ok sn (fn:=Tryz.f126) (by kernel_rfl) (by kernel_rfl) (F:=F_r04_pins) rfl
noncomputable def F_r04_Need (d:Pden [.val Y3,.val (.int .i64)]):Option (Rden [⟨(.int .i64),[none],none⟩] × Oden [.val Y3,.val (.int .i64)]):=FT [E_r04_ValidConf.ent,E_r04_SmallWords.ent] [⟨0,[],⟨[4,5],[.val (.int .i64),.val (.int .i64)],[],[],[]⟩,[(.ret,⟨[4],[.val (.int .i64)],[],[],[]⟩),(.exit 0,⟨[4],[.val (.int .i64)],[],[],[]⟩)]⟩] 28 Tryz.f94 [.p,.p] [.val Y3,.val (.int .i64)] [⟨(.int .i64),[none],none⟩] d
noncomputable def E_r04_Need:Entry:=⟨94,[.p,.p],[.val Y3,.val (.int .i64)],[⟨(.int .i64),[none],none⟩],F_r04_Need⟩
theorem S_r04_Need:Snd E_r04_Need:=ent_ok te_ok mix_ok (sc S_r04_ValidConf (sc S_r04_SmallWords sn)) (fn:=Tryz.f94) (by kernel_rfl) (by kernel_rfl) (F:=F_r04_Need) rfl
noncomputable def F_r04_tails (d:Pden [.val Y7,.val (.int .i64),.val (.int .i64)]):Option (Rden [⟨(.int .i64),[none],none⟩] × Oden [.val Y7,.val (.int .i64),.val (.int .i64)]):=FT [] [⟨0,[],⟨[7,8],[.val (.int .i64),.val (.int .i64)],[],[],[]⟩,[(.exit 0,⟨[7],[.val (.int .i64)],[],[],[]⟩)]⟩] 37 Tryz.f127 [.p,.p,.p] [.val Y7,.val (.int .i64),.val (.int .i64)] [⟨(.int .i64),[none],none⟩] d
noncomputable def E_r04_tails:Entry:=⟨127,[.p,.p,.p],[.val Y7,.val (.int .i64),.val (.int .i64)],[⟨(.int .i64),[none],none⟩],F_r04_tails⟩
theorem S_r04_tails:Snd E_r04_tails:=ent_ok te_ok mix_ok sn (fn:=Tryz.f127) (by kernel_rfl) (by kernel_rfl) (F:=F_r04_tails) rfl
noncomputable def F_r04_Proper (d:Pden [.val Y10]):Option (Rden [⟨.bool,[none],none⟩] × Oden [.val Y10]):=FT [E_r04_ValidConf.ent,E_r04_pins.ent,E_r04_Need.ent,E_r04_tails.ent] [⟨0,[],⟨[2,3,4],[.val .bool,.val (.int .i64),.val (.int .i64)],[],[],[]⟩,[(.ret,⟨[2],[.val .bool],[],[],[]⟩),(.exit 0,⟨[2],[.val .bool],[],[],[]⟩)]⟩] 157 Tryz.f72 [.p] [.val Y10] [⟨.bool,[none],none⟩] d
noncomputable def E_r04_Proper:Entry:=⟨72,[.p],[.val Y10],[⟨.bool,[none],none⟩],F_r04_Proper⟩
theorem S_r04_Proper:Snd E_r04_Proper:=ent_ok te_ok mix_ok (sc S_r04_ValidConf (sc S_r04_pins (sc S_r04_Need (sc S_r04_tails sn)))) (fn:=Tryz.f72) (by kernel_rfl) (by kernel_rfl) (F:=F_r04_Proper) rfl
noncomputable def F_r03_Valid (d:Pden [.val Y16]):Option (Rden [⟨.bool,[none],none⟩] × Oden [.val Y16]):=FT [] [] 40 Tryz.f89 [.p] [.val Y16] [⟨.bool,[none],none⟩] d
noncomputable def E_r03_Valid:Entry:=⟨89,[.p],[.val Y16],[⟨.bool,[none],none⟩],F_r03_Valid⟩
theorem S_r03_Valid:Snd E_r03_Valid:=ent_ok te_ok mix_ok sn (fn:=Tryz.f89) (by kernel_rfl) (by kernel_rfl) (F:=F_r03_Valid) rfl
noncomputable def F_r03_Size (d:Pden [.val Y16]):Option (Rden [⟨(.int .i64),[none],none⟩] × Oden [.val Y16]):=FT [E_r03_Valid.ent] [] 9 Tryz.f33 [.p] [.val Y16] [⟨(.int .i64),[none],none⟩] d
noncomputable def E_r03_Size:Entry:=⟨33,[.p],[.val Y16],[⟨(.int .i64),[none],none⟩],F_r03_Size⟩
theorem S_r03_Size:Snd E_r03_Size:=ent_ok te_ok mix_ok (sc S_r03_Valid sn) (fn:=Tryz.f33) (by kernel_rfl) (by kernel_rfl) (F:=F_r03_Size) rfl
noncomputable def F_r07_Asks (d:Pden [.val Y3,.val Y16]):Option (Rden [⟨.bool,[none],none⟩] × Oden [.val Y3,.val Y16]):=FT [E_r03_Valid.ent,E_r03_Size.ent,E_r04_Need.ent] [] 19 Tryz.f93 [.p,.p] [.val Y3,.val Y16] [⟨.bool,[none],none⟩] d
noncomputable def E_r07_Asks:Entry:=⟨93,[.p,.p],[.val Y3,.val Y16],[⟨.bool,[none],none⟩],F_r07_Asks⟩
theorem S_r07_Asks:Snd E_r07_Asks:=ent_ok te_ok mix_ok (sc S_r03_Valid (sc S_r03_Size (sc S_r04_Need sn))) (fn:=Tryz.f93) (by kernel_rfl) (by kernel_rfl) (F:=F_r07_Asks) rfl
noncomputable def F_r04_Limit (d:Pden [.val Y3]):Option (Rden [⟨(.int .i64),[none],none⟩] × Oden [.val Y3]):=FT [E_r04_ValidConf.ent] [] 9 Tryz.f145 [.p] [.val Y3] [⟨(.int .i64),[none],none⟩] d
noncomputable def E_r04_Limit:Entry:=⟨145,[.p],[.val Y3],[⟨(.int .i64),[none],none⟩],F_r04_Limit⟩
theorem S_r04_Limit:Snd E_r04_Limit:=ent_ok te_ok mix_ok (sc S_r04_ValidConf sn) (fn:=Tryz.f145) (by kernel_rfl) (by kernel_rfl) (F:=F_r04_Limit) rfl
noncomputable def F_r04_InUse (d:Pden [.val Y7]):Option (Rden [⟨(.int .i64),[none],none⟩] × Oden [.val Y7]):=FT [] [⟨0,[],⟨[3,4],[.val (.int .i64),.val (.int .i64)],[],[],[]⟩,[(.exit 0,⟨[3],[.val (.int .i64)],[],[],[]⟩)]⟩] 20 Tryz.f80 [.p] [.val Y7] [⟨(.int .i64),[none],none⟩] d
noncomputable def E_r04_InUse:Entry:=⟨80,[.p],[.val Y7],[⟨(.int .i64),[none],none⟩],F_r04_InUse⟩
theorem S_r04_InUse:Snd E_r04_InUse:=ent_ok te_ok mix_ok sn (fn:=Tryz.f80) (by kernel_rfl) (by kernel_rfl) (F:=F_r04_InUse) rfl
noncomputable def F_r04_Runs (d:Pden [.val Y7]):Option (Rden [⟨Y17,[some 220],none⟩] × Oden [.val Y7]):=FT [] [⟨0,[],⟨[3,4],[.own 0,.val (.int .i64)],[.arr 220 Y3],[],[]⟩,[(.exit 0,⟨[3],[.own 0],[.arr 220 Y3],[],[]⟩)]⟩] 54 Tryz.f188 [.p] [.val Y7] [⟨Y17,[some 220],none⟩] d
noncomputable def E_r04_Runs:Entry:=⟨188,[.p],[.val Y7],[⟨Y17,[some 220],none⟩],F_r04_Runs⟩
theorem S_r04_Runs:Snd E_r04_Runs:=ent_ok te_ok mix_ok sn (fn:=Tryz.f188) (by kernel_rfl) (by kernel_rfl) (F:=F_r04_Runs) rfl
noncomputable def F_r04_First (d:Pden [.val Y7,.val (.int .i64)]):Option (Rden [⟨(.int .i64),[none],none⟩] × Oden [.val Y7,.val (.int .i64)]):=FT [E_r04_Runs.ent] [⟨0,[],⟨[4,6],[.val (.int .i64),.val (.int .i64)],[],[],[]⟩,[(.ret,⟨[4],[.val (.int .i64)],[],[],[]⟩),(.exit 0,⟨[4],[.val (.int .i64)],[],[],[]⟩)]⟩] 31 Tryz.f146 [.p,.p] [.val Y7,.val (.int .i64)] [⟨(.int .i64),[none],none⟩] d
noncomputable def E_r04_First:Entry:=⟨146,[.p,.p],[.val Y7,.val (.int .i64)],[⟨(.int .i64),[none],none⟩],F_r04_First⟩
theorem S_r04_First:Snd E_r04_First:=ent_ok te_ok mix_ok (sc S_r04_Runs sn) (fn:=Tryz.f146) (by kernel_rfl) (by kernel_rfl) (F:=F_r04_First) rfl
noncomputable def F_r04_take_o (d:Pden [.val Y7,.val (.int .i64),.val (.int .i64),.val Y6,.val Y6]):Option (Rden [⟨Y7,[some 63],none⟩,⟨(.int .i64),[none],none⟩] × Oden [.val Y7,.val (.int .i64),.val (.int .i64),.val Y6,.val Y6]):=FT [] [⟨0,[],⟨[10,11,13],[.val Y7,.val (.int .i64),.val (.int .i64)],[],[1541],[.arr 63 Y6]⟩,[(.ret,⟨[10,11],[.val Y7,.val (.int .i64)],[],[1541],[.arr 63 Y6]⟩),(.exit 0,⟨[10,11],[.val Y7,.val (.int .i64)],[],[1541],[.arr 63 Y6]⟩)]⟩] 57 Tryz.f189 [.p,.p,.p,.p,.p] [.val Y7,.val (.int .i64),.val (.int .i64),.val Y6,.val Y6] [⟨Y7,[some 63],none⟩,⟨(.int .i64),[none],none⟩] d
noncomputable def E_r04_take_o:Entry:=⟨189,[.p,.p,.p,.p,.p],[.val Y7,.val (.int .i64),.val (.int .i64),.val Y6,.val Y6],[⟨Y7,[some 63],none⟩,⟨(.int .i64),[none],none⟩],F_r04_take_o⟩
theorem S_r04_take_o:Snd E_r04_take_o:=ent_ok te_ok mix_ok sn (fn:=Tryz.f189) (by kernel_rfl) (by kernel_rfl) (F:=F_r04_take_o) rfl
noncomputable def F_r04_Small_o (d:Pden [.val Y7,.val (.int .i64),.val (.int .i64)]):Option (Rden [⟨Y7,[some 63],none⟩,⟨(.int .i64),[none],none⟩] × Oden [.val Y7,.val (.int .i64),.val (.int .i64)]):=FT [E_r04_take_o.ent] [] 22 Tryz.f147 [.p,.p,.p] [.val Y7,.val (.int .i64),.val (.int .i64)] [⟨Y7,[some 63],none⟩,⟨(.int .i64),[none],none⟩] d
noncomputable def E_r04_Small_o:Entry:=⟨147,[.p,.p,.p],[.val Y7,.val (.int .i64),.val (.int .i64)],[⟨Y7,[some 63],none⟩,⟨(.int .i64),[none],none⟩],F_r04_Small_o⟩
theorem S_r04_Small_o:Snd E_r04_Small_o:=ent_ok te_ok mix_ok (sc S_r04_take_o sn) (fn:=Tryz.f147) (by kernel_rfl) (by kernel_rfl) (F:=F_r04_Small_o) rfl
noncomputable def F_r07_small (d:Pden [.val Y10,.val (.int .i64)]):Option (Rden [⟨Y10,[none,none,none,some 63,none,none],none⟩,⟨(.int .u64),[none],none⟩,⟨.bool,[none],none⟩] × Oden [.val Y10,.val (.int .i64)]):=FT [E_r04_Limit.ent,E_r04_InUse.ent,E_r04_First.ent,E_r04_Small_o.ent] [] 108 Tryz.f95 [.p,.p] [.val Y10,.val (.int .i64)] [⟨Y10,[none,none,none,some 63,none,none],none⟩,⟨(.int .u64),[none],none⟩,⟨.bool,[none],none⟩] d
noncomputable def E_r07_small:Entry:=⟨95,[.p,.p],[.val Y10,.val (.int .i64)],[⟨Y10,[none,none,none,some 63,none,none],none⟩,⟨(.int .u64),[none],none⟩,⟨.bool,[none],none⟩],F_r07_small⟩
theorem S_r07_small:Snd E_r07_small:=ent_ok te_ok mix_ok (sc S_r04_Limit (sc S_r04_InUse (sc S_r04_First (sc S_r04_Small_o sn)))) (fn:=Tryz.f95) (by kernel_rfl) (by kernel_rfl) (F:=F_r07_small) rfl
noncomputable def F_r04_take (d:Pden [.val Y7,.val (.int .i64),.val (.int .i64),.val Y6,.val Y6]):Option (Rden [⟨Y7,[none],none⟩,⟨(.int .i64),[none],none⟩] × Oden [.val Y7,.val (.int .i64),.val (.int .i64),.val Y6,.val Y6]):=FT [] [⟨0,[],⟨[10,11,13],[.val Y7,.val (.int .i64),.val (.int .i64)],[],[1541],[.arr 63 Y6]⟩,[(.ret,⟨[10,11],[.val Y7,.val (.int .i64)],[],[1541],[.arr 63 Y6]⟩),(.exit 0,⟨[10,11],[.val Y7,.val (.int .i64)],[],[1541],[.arr 63 Y6]⟩)]⟩] 57 Tryz.f189 [.p,.p,.p,.p,.p] [.val Y7,.val (.int .i64),.val (.int .i64),.val Y6,.val Y6] [⟨Y7,[none],none⟩,⟨(.int .i64),[none],none⟩] d
noncomputable def E_r04_take:Entry:=⟨189,[.p,.p,.p,.p,.p],[.val Y7,.val (.int .i64),.val (.int .i64),.val Y6,.val Y6],[⟨Y7,[none],none⟩,⟨(.int .i64),[none],none⟩],F_r04_take⟩
theorem S_r04_take:Snd E_r04_take:=ent_ok te_ok mix_ok sn (fn:=Tryz.f189) (by kernel_rfl) (by kernel_rfl) (F:=F_r04_take) rfl
noncomputable def F_r04_Large (d:Pden [.val Y3,.val Y7,.val (.int .i64),.val (.int .i64),.val (.int .i64)]):Option (Rden [⟨Y7,[none],none⟩,⟨(.int .i64),[none],none⟩] × Oden [.val Y3,.val Y7,.val (.int .i64),.val (.int .i64),.val (.int .i64)]):=FT [E_r04_Need.ent,E_r04_take.ent] [] 37 Tryz.f148 [.p,.p,.p,.p,.p] [.val Y3,.val Y7,.val (.int .i64),.val (.int .i64),.val (.int .i64)] [⟨Y7,[none],none⟩,⟨(.int .i64),[none],none⟩] d
noncomputable def E_r04_Large:Entry:=⟨148,[.p,.p,.p,.p,.p],[.val Y3,.val Y7,.val (.int .i64),.val (.int .i64),.val (.int .i64)],[⟨Y7,[none],none⟩,⟨(.int .i64),[none],none⟩],F_r04_Large⟩
theorem S_r04_Large:Snd E_r04_Large:=ent_ok te_ok mix_ok (sc S_r04_Need (sc S_r04_take sn)) (fn:=Tryz.f148) (by kernel_rfl) (by kernel_rfl) (F:=F_r04_Large) rfl
noncomputable def F_r07_large (d:Pden [.val Y10,.val (.int .i64),.val (.int .i64)]):Option (Rden [⟨Y10,[none,none,none,none,none,none],none⟩,⟨(.int .u64),[none],none⟩,⟨.bool,[none],none⟩] × Oden [.val Y10,.val (.int .i64),.val (.int .i64)]):=FT [E_r04_First.ent,E_r04_InUse.ent,E_r04_Limit.ent,E_r04_Large.ent] [] 49 Tryz.f96 [.p,.p,.p] [.val Y10,.val (.int .i64),.val (.int .i64)] [⟨Y10,[none,none,none,none,none,none],none⟩,⟨(.int .u64),[none],none⟩,⟨.bool,[none],none⟩] d
noncomputable def E_r07_large:Entry:=⟨96,[.p,.p,.p],[.val Y10,.val (.int .i64),.val (.int .i64)],[⟨Y10,[none,none,none,none,none,none],none⟩,⟨(.int .u64),[none],none⟩,⟨.bool,[none],none⟩],F_r07_large⟩
theorem S_r07_large:Snd E_r07_large:=ent_ok te_ok mix_ok (sc S_r04_First (sc S_r04_InUse (sc S_r04_Limit (sc S_r04_Large sn)))) (fn:=Tryz.f96) (by kernel_rfl) (by kernel_rfl) (F:=F_r07_large) rfl
noncomputable def F_r03_Encode (d:Pden [.val Y16]):Option (Rden [⟨(.int .u64),[none],none⟩,⟨(.int .i64),[none],none⟩] × Oden [.val Y16]):=FT [E_r03_Valid.ent] [] 22 Tryz.f133 [.p] [.val Y16] [⟨(.int .u64),[none],none⟩,⟨(.int .i64),[none],none⟩] d
noncomputable def E_r03_Encode:Entry:=⟨133,[.p],[.val Y16],[⟨(.int .u64),[none],none⟩,⟨(.int .i64),[none],none⟩],F_r03_Encode⟩
theorem S_r03_Encode:Snd E_r03_Encode:=ent_ok te_ok mix_ok (sc S_r03_Valid sn) (fn:=Tryz.f133) (by kernel_rfl) (by kernel_rfl) (F:=F_r03_Encode) rfl
noncomputable def F_r02_span (d:Pden [.val Y4,.val (.int .u64),.val (.int .i64)]):Option (Rden [⟨(.int .i64),[none],none⟩,⟨.bool,[none],none⟩] × Oden [.val Y4,.val (.int .u64),.val (.int .i64)]):=FT [] [] 29 Tryz.f149 [.p,.p,.p] [.val Y4,.val (.int .u64),.val (.int .i64)] [⟨(.int .i64),[none],none⟩,⟨.bool,[none],none⟩] d
noncomputable def E_r02_span:Entry:=⟨149,[.p,.p,.p],[.val Y4,.val (.int .u64),.val (.int .i64)],[⟨(.int .i64),[none],none⟩,⟨.bool,[none],none⟩],F_r02_span⟩
theorem S_r02_span:Snd E_r02_span:=ent_ok te_ok mix_ok sn (fn:=Tryz.f149) (by kernel_rfl) (by kernel_rfl) (F:=F_r02_span) rfl
noncomputable def F_r02_Write (d:Pden [.val Y4,.val (.int .u64),.val Y4]):Option (Rden [⟨Y4,[some 37],none⟩,⟨(.int .i64),[none],none⟩] × Oden [.val Y4,.val (.int .u64),.val Y4]):=FT [E_r02_span.ent] [⟨0,[],⟨[11],[.val (.int .i64)],[],[1155],[.arr 37 (.int .u64)]⟩,[(.exit 0,⟨[],[],[],[1155],[.arr 37 (.int .u64)]⟩)]⟩] 41 Tryz.f134 [.p,.p,.p] [.val Y4,.val (.int .u64),.val Y4] [⟨Y4,[some 37],none⟩,⟨(.int .i64),[none],none⟩] d
noncomputable def E_r02_Write:Entry:=⟨134,[.p,.p,.p],[.val Y4,.val (.int .u64),.val Y4],[⟨Y4,[some 37],none⟩,⟨(.int .i64),[none],none⟩],F_r02_Write⟩
theorem S_r02_Write:Snd E_r02_Write:=ent_ok te_ok mix_ok (sc S_r02_span sn) (fn:=Tryz.f134) (by kernel_rfl) (by kernel_rfl) (F:=F_r02_Write) rfl
noncomputable def F_r05_Init (d:Pden [.val Y10,.val (.int .u64),.val Y16]):Option (Rden [⟨Y10,[none,none,some 37,none,none,none],none⟩,⟨(.int .i64),[none],none⟩] × Oden [.val Y10,.val (.int .u64),.val Y16]):=FT [E_r03_Encode.ent,E_r04_Proper.ent,E_r02_Write.ent] [] 43 Tryz.f82 [.p,.p,.p] [.val Y10,.val (.int .u64),.val Y16] [⟨Y10,[none,none,some 37,none,none,none],none⟩,⟨(.int .i64),[none],none⟩] d
noncomputable def E_r05_Init:Entry:=⟨82,[.p,.p,.p],[.val Y10,.val (.int .u64),.val Y16],[⟨Y10,[none,none,some 37,none,none,none],none⟩,⟨(.int .i64),[none],none⟩],F_r05_Init⟩
theorem S_r05_Init:Snd E_r05_Init:=ent_ok te_ok mix_ok (sc S_r03_Encode (sc S_r04_Proper (sc S_r02_Write sn))) (fn:=Tryz.f82) (by kernel_rfl) (by kernel_rfl) (F:=F_r05_Init) rfl
noncomputable def F_r07_New (d:Pden [.val Y10,.val Y16]):Option (Rden [⟨Y10,[none,none,some 37,none,none,none],none⟩,⟨(.int .u64),[none],none⟩,⟨(.int .i64),[none],none⟩] × Oden [.val Y10,.val Y16]):=FT [E_r04_Proper.ent,E_r07_Asks.ent,E_r03_Size.ent,E_r04_Need.ent,E_r07_small.ent,E_r07_large.ent,E_r05_Init.ent] [] 58 Tryz.f39 [.p,.p] [.val Y10,.val Y16] [⟨Y10,[none,none,some 37,none,none,none],none⟩,⟨(.int .u64),[none],none⟩,⟨(.int .i64),[none],none⟩] d
noncomputable def E_r07_New:Entry:=⟨39,[.p,.p],[.val Y10,.val Y16],[⟨Y10,[none,none,some 37,none,none,none],none⟩,⟨(.int .u64),[none],none⟩,⟨(.int .i64),[none],none⟩],F_r07_New⟩
theorem S_r07_New:Snd E_r07_New:=ent_ok te_ok mix_ok (sc S_r04_Proper (sc S_r07_Asks (sc S_r03_Size (sc S_r04_Need (sc S_r07_small (sc S_r07_large (sc S_r05_Init sn))))))) (fn:=Tryz.f39) (by kernel_rfl) (by kernel_rfl) (F:=F_r07_New) rfl
noncomputable def F_made_World_Put (d:Pden [.val Y13,.val Y16]):Option (Rden [⟨Y13,[none,none,none,none,none,none,none,none],none⟩] × Oden [.val Y13,.val Y16]):=FT [E_r07_New.ent] [] 29 Tryz.f107 [.p,.p] [.val Y13,.val Y16] [⟨Y13,[none,none,none,none,none,none,none,none],none⟩] d
noncomputable def E_made_World_Put:Entry:=⟨107,[.p,.p],[.val Y13,.val Y16],[⟨Y13,[none,none,none,none,none,none,none,none],none⟩],F_made_World_Put⟩
theorem S_made_World_Put:Snd E_made_World_Put:=ent_ok te_ok mix_ok (sc S_r07_New sn) (fn:=Tryz.f107) (by kernel_rfl) (by kernel_rfl) (F:=F_made_World_Put) rfl
noncomputable def F_made_World_pick (d:Pden [.val Y13,.ptr 68 Y2]):Option (Rden [⟨(.int .u64),[none],none⟩] × Oden [.val Y13,.ptr 68 Y2]):=FT [E_made_Tape_Next.ent] [] 20 Tryz.f140 [.p,.p] [.val Y13,.ptr 68 Y2] [⟨(.int .u64),[none],none⟩] d
noncomputable def E_made_World_pick:Entry:=⟨140,[.p,.p],[.val Y13,.ptr 68 Y2],[⟨(.int .u64),[none],none⟩],F_made_World_pick⟩
theorem S_made_World_pick:Snd E_made_World_pick:=ent_ok te_ok mix_ok (sc S_made_Tape_Next sn) (fn:=Tryz.f140) (by kernel_rfl) (by kernel_rfl) (F:=F_made_World_pick) rfl
noncomputable def F_r04_Of (d:Pden [.val Y3,.val (.int .u64)]):Option (Rden [⟨(.int .i64),[none],none⟩,⟨(.int .i64),[none],none⟩,⟨(.int .i64),[none],none⟩] × Oden [.val Y3,.val (.int .u64)]):=FT [E_r04_ValidConf.ent] [] 35 Tryz.f48 [.p,.p] [.val Y3,.val (.int .u64)] [⟨(.int .i64),[none],none⟩,⟨(.int .i64),[none],none⟩,⟨(.int .i64),[none],none⟩] d
noncomputable def E_r04_Of:Entry:=⟨48,[.p,.p],[.val Y3,.val (.int .u64)],[⟨(.int .i64),[none],none⟩,⟨(.int .i64),[none],none⟩,⟨(.int .i64),[none],none⟩],F_r04_Of⟩
theorem S_r04_Of:Snd E_r04_Of:=ent_ok te_ok mix_ok (sc S_r04_ValidConf sn) (fn:=Tryz.f48) (by kernel_rfl) (by kernel_rfl) (F:=F_r04_Of) rfl
noncomputable def F_r02_Index (d:Pden [.val Y4,.val (.int .u64)]):Option (Rden [⟨(.int .i64),[none],none⟩,⟨(.int .i64),[none],none⟩] × Oden [.val Y4,.val (.int .u64)]):=FT [E_r02_span.ent] [] 17 Tryz.f141 [.p,.p] [.val Y4,.val (.int .u64)] [⟨(.int .i64),[none],none⟩,⟨(.int .i64),[none],none⟩] d
noncomputable def E_r02_Index:Entry:=⟨141,[.p,.p],[.val Y4,.val (.int .u64)],[⟨(.int .i64),[none],none⟩,⟨(.int .i64),[none],none⟩],F_r02_Index⟩
theorem S_r02_Index:Snd E_r02_Index:=ent_ok te_ok mix_ok (sc S_r02_span sn) (fn:=Tryz.f141) (by kernel_rfl) (by kernel_rfl) (F:=F_r02_Index) rfl
noncomputable def F_r02_Load (d:Pden [.val Y4,.val (.int .u64)]):Option (Rden [⟨(.int .u64),[none],none⟩,⟨(.int .i64),[none],none⟩] × Oden [.val Y4,.val (.int .u64)]):=FT [E_r02_Index.ent] [] 21 Tryz.f87 [.p,.p] [.val Y4,.val (.int .u64)] [⟨(.int .u64),[none],none⟩,⟨(.int .i64),[none],none⟩] d
noncomputable def E_r02_Load:Entry:=⟨87,[.p,.p],[.val Y4,.val (.int .u64)],[⟨(.int .u64),[none],none⟩,⟨(.int .i64),[none],none⟩],F_r02_Load⟩
theorem S_r02_Load:Snd E_r02_Load:=ent_ok te_ok mix_ok (sc S_r02_Index sn) (fn:=Tryz.f87) (by kernel_rfl) (by kernel_rfl) (F:=F_r02_Load) rfl
noncomputable def F_r03_Decode (d:Pden [.val (.int .u64)]):Option (Rden [⟨Y16,[none,none,none],none⟩,⟨.bool,[none],none⟩] × Oden [.val (.int .u64)]):=FT [E_r03_Encode.ent] [] 33 Tryz.f88 [.p] [.val (.int .u64)] [⟨Y16,[none,none,none],none⟩,⟨.bool,[none],none⟩] d
noncomputable def E_r03_Decode:Entry:=⟨88,[.p],[.val (.int .u64)],[⟨Y16,[none,none,none],none⟩,⟨.bool,[none],none⟩],F_r03_Decode⟩
theorem S_r03_Decode:Snd E_r03_Decode:=ent_ok te_ok mix_ok (sc S_r03_Encode sn) (fn:=Tryz.f88) (by kernel_rfl) (by kernel_rfl) (F:=F_r03_Decode) rfl
noncomputable def F_r05_At (d:Pden [.val Y10,.val (.int .u64)]):Option (Rden [⟨Y16,[none,none,none],none⟩,⟨(.int .i64),[none],none⟩] × Oden [.val Y10,.val (.int .u64)]):=FT [E_r04_Proper.ent,E_r04_Of.ent,E_r02_Load.ent,E_r03_Decode.ent,E_r03_Size.ent] [] 96 Tryz.f32 [.p,.p] [.val Y10,.val (.int .u64)] [⟨Y16,[none,none,none],none⟩,⟨(.int .i64),[none],none⟩] d
noncomputable def E_r05_At:Entry:=⟨32,[.p,.p],[.val Y10,.val (.int .u64)],[⟨Y16,[none,none,none],none⟩,⟨(.int .i64),[none],none⟩],F_r05_At⟩
theorem S_r05_At:Snd E_r05_At:=ent_ok te_ok mix_ok (sc S_r04_Proper (sc S_r04_Of (sc S_r02_Load (sc S_r03_Decode (sc S_r03_Size sn))))) (fn:=Tryz.f32) (by kernel_rfl) (by kernel_rfl) (F:=F_r05_At) rfl
noncomputable def F_r05_Get (d:Pden [.val Y10,.val (.int .u64)]):Option (Rden [⟨Y16,[none,none,none],none⟩,⟨(.int .i64),[none],none⟩] × Oden [.val Y10,.val (.int .u64)]):=FT [E_r04_Proper.ent,E_r05_At.ent] [] 31 Tryz.f47 [.p,.p] [.val Y10,.val (.int .u64)] [⟨Y16,[none,none,none],none⟩,⟨(.int .i64),[none],none⟩] d
noncomputable def E_r05_Get:Entry:=⟨47,[.p,.p],[.val Y10,.val (.int .u64)],[⟨Y16,[none,none,none],none⟩,⟨(.int .i64),[none],none⟩],F_r05_Get⟩
theorem S_r05_Get:Snd E_r05_Get:=ent_ok te_ok mix_ok (sc S_r04_Proper (sc S_r05_At sn)) (fn:=Tryz.f47) (by kernel_rfl) (by kernel_rfl) (F:=F_r05_Get) rfl
noncomputable def F_r03_Pointer (d:Pden [.val Y16,.val (.int .i64)]):Option (Rden [⟨.bool,[none],none⟩] × Oden [.val Y16,.val (.int .i64)]):=FT [E_r03_Valid.ent] [] 35 Tryz.f105 [.p,.p] [.val Y16,.val (.int .i64)] [⟨.bool,[none],none⟩] d
noncomputable def E_r03_Pointer:Entry:=⟨105,[.p,.p],[.val Y16,.val (.int .i64)],[⟨.bool,[none],none⟩],F_r03_Pointer⟩
theorem S_r03_Pointer:Snd E_r03_Pointer:=ent_ok te_ok mix_ok (sc S_r03_Valid sn) (fn:=Tryz.f105) (by kernel_rfl) (by kernel_rfl) (F:=F_r03_Pointer) rfl
noncomputable def F_r05_Field (d:Pden [.val Y10,.val (.int .u64),.val (.int .i64)]):Option (Rden [⟨(.int .u64),[none],none⟩,⟨(.int .i64),[none],none⟩] × Oden [.val Y10,.val (.int .u64),.val (.int .i64)]):=FT [E_r05_Get.ent,E_r02_Load.ent] [] 37 Tryz.f153 [.p,.p,.p] [.val Y10,.val (.int .u64),.val (.int .i64)] [⟨(.int .u64),[none],none⟩,⟨(.int .i64),[none],none⟩] d
noncomputable def E_r05_Field:Entry:=⟨153,[.p,.p,.p],[.val Y10,.val (.int .u64),.val (.int .i64)],[⟨(.int .u64),[none],none⟩,⟨(.int .i64),[none],none⟩],F_r05_Field⟩
theorem S_r05_Field:Snd E_r05_Field:=ent_ok te_ok mix_ok (sc S_r05_Get (sc S_r02_Load sn)) (fn:=Tryz.f153) (by kernel_rfl) (by kernel_rfl) (F:=F_r05_Field) rfl
noncomputable def F_r02_Store (d:Pden [.val Y4,.val (.int .u64),.val (.int .u64)]):Option (Rden [⟨Y4,[some 37],none⟩,⟨(.int .i64),[none],none⟩] × Oden [.val Y4,.val (.int .u64),.val (.int .u64)]):=FT [E_r02_Write.ent] [] 15 Tryz.f154 [.p,.p,.p] [.val Y4,.val (.int .u64),.val (.int .u64)] [⟨Y4,[some 37],none⟩,⟨(.int .i64),[none],none⟩] d
noncomputable def E_r02_Store:Entry:=⟨154,[.p,.p,.p],[.val Y4,.val (.int .u64),.val (.int .u64)],[⟨Y4,[some 37],none⟩,⟨(.int .i64),[none],none⟩],F_r02_Store⟩
theorem S_r02_Store:Snd E_r02_Store:=ent_ok te_ok mix_ok (sc S_r02_Write sn) (fn:=Tryz.f154) (by kernel_rfl) (by kernel_rfl) (F:=F_r02_Store) rfl
noncomputable def F_r05_SetField (d:Pden [.val Y10,.val (.int .u64),.val (.int .i64),.val (.int .u64)]):Option (Rden [⟨Y10,[none,none,some 37,none,none,none],none⟩,⟨(.int .i64),[none],none⟩] × Oden [.val Y10,.val (.int .u64),.val (.int .i64),.val (.int .u64)]):=FT [E_r05_Field.ent,E_r02_Store.ent] [] 37 Tryz.f108 [.p,.p,.p,.p] [.val Y10,.val (.int .u64),.val (.int .i64),.val (.int .u64)] [⟨Y10,[none,none,some 37,none,none,none],none⟩,⟨(.int .i64),[none],none⟩] d
noncomputable def E_r05_SetField:Entry:=⟨108,[.p,.p,.p,.p],[.val Y10,.val (.int .u64),.val (.int .i64),.val (.int .u64)],[⟨Y10,[none,none,some 37,none,none,none],none⟩,⟨(.int .i64),[none],none⟩],F_r05_SetField⟩
theorem S_r05_SetField:Snd E_r05_SetField:=ent_ok te_ok mix_ok (sc S_r05_Field (sc S_r02_Store sn)) (fn:=Tryz.f108) (by kernel_rfl) (by kernel_rfl) (F:=F_r05_SetField) rfl
noncomputable def F_made_World_Link (d:Pden [.val Y13,.ptr 68 Y2]):Option (Rden [⟨Y13,[none,none,none,none,none,none,none,none],none⟩] × Oden [.val Y13,.ptr 68 Y2]):=FT [E_made_World_pick.ent,E_made_Tape_Next.ent,E_r05_Get.ent,E_r03_Pointer.ent,E_r05_SetField.ent] [] 55 Tryz.f136 [.p,.p] [.val Y13,.ptr 68 Y2] [⟨Y13,[none,none,none,none,none,none,none,none],none⟩] d
noncomputable def E_made_World_Link:Entry:=⟨136,[.p,.p],[.val Y13,.ptr 68 Y2],[⟨Y13,[none,none,none,none,none,none,none,none],none⟩],F_made_World_Link⟩
theorem S_made_World_Link:Snd E_made_World_Link:=ent_ok te_ok mix_ok (sc S_made_World_pick (sc S_made_Tape_Next (sc S_r05_Get (sc S_r03_Pointer (sc S_r05_SetField sn))))) (fn:=Tryz.f136) (by kernel_rfl) (by kernel_rfl) (F:=F_made_World_Link) rfl
noncomputable def F_made_crowd (d:Pden [.val Y10]):Option (Rden [⟨(.int .i64),[none],none⟩] × Oden [.val Y10]):=FT [] [⟨0,[],⟨[3,4],[.val (.int .i64),.val (.int .i64)],[],[],[]⟩,[(.exit 0,⟨[3],[.val (.int .i64)],[],[],[]⟩)]⟩] 31 Tryz.f178 [.p] [.val Y10] [⟨(.int .i64),[none],none⟩] d
noncomputable def E_made_crowd:Entry:=⟨178,[.p],[.val Y10],[⟨(.int .i64),[none],none⟩],F_made_crowd⟩
theorem S_made_crowd:Snd E_made_crowd:=ent_ok te_ok mix_ok sn (fn:=Tryz.f178) (by kernel_rfl) (by kernel_rfl) (F:=F_made_crowd) rfl
noncomputable def F_made_World_Pin (d:Pden [.val Y13,.ptr 68 Y2]):Option (Rden [⟨Y13,[none,none,none,none,none,none,none,none],none⟩] × Oden [.val Y13,.ptr 68 Y2]):=FT [E_made_World_pick.ent,E_r04_Of.ent,E_made_Tape_Next.ent,E_made_crowd.ent] [] 87 Tryz.f137 [.p,.p] [.val Y13,.ptr 68 Y2] [⟨Y13,[none,none,none,none,none,none,none,none],none⟩] d
noncomputable def E_made_World_Pin:Entry:=⟨137,[.p,.p],[.val Y13,.ptr 68 Y2],[⟨Y13,[none,none,none,none,none,none,none,none],none⟩],F_made_World_Pin⟩
theorem S_made_World_Pin:Snd E_made_World_Pin:=ent_ok te_ok mix_ok (sc S_made_World_pick (sc S_r04_Of (sc S_made_Tape_Next (sc S_made_crowd sn)))) (fn:=Tryz.f137) (by kernel_rfl) (by kernel_rfl) (F:=F_made_World_Pin) rfl
noncomputable def F_made_World_Drop (d:Pden [.val Y13,.ptr 68 Y2]):Option (Rden [⟨Y13,[none,none,none,none,none,none,none,none],none⟩] × Oden [.val Y13,.ptr 68 Y2]):=FT [E_made_Tape_Next.ent] [] 44 Tryz.f138 [.p,.p] [.val Y13,.ptr 68 Y2] [⟨Y13,[none,none,none,none,none,none,none,none],none⟩] d
noncomputable def E_made_World_Drop:Entry:=⟨138,[.p,.p],[.val Y13,.ptr 68 Y2],[⟨Y13,[none,none,none,none,none,none,none,none],none⟩],F_made_World_Drop⟩
theorem S_made_World_Drop:Snd E_made_World_Drop:=ent_ok te_ok mix_ok (sc S_made_Tape_Next sn) (fn:=Tryz.f138) (by kernel_rfl) (by kernel_rfl) (F:=F_made_World_Drop) rfl
noncomputable def F_r04_Address (d:Pden [.val Y3,.val (.int .i64),.val (.int .i64)]):Option (Rden [⟨(.int .u64),[none],none⟩,⟨(.int .i64),[none],none⟩] × Oden [.val Y3,.val (.int .i64),.val (.int .i64)]):=FT [E_r04_ValidConf.ent] [] 37 Tryz.f73 [.p,.p,.p] [.val Y3,.val (.int .i64),.val (.int .i64)] [⟨(.int .u64),[none],none⟩,⟨(.int .i64),[none],none⟩] d
noncomputable def E_r04_Address:Entry:=⟨73,[.p,.p,.p],[.val Y3,.val (.int .i64),.val (.int .i64)],[⟨(.int .u64),[none],none⟩,⟨(.int .i64),[none],none⟩],F_r04_Address⟩
theorem S_r04_Address:Snd E_r04_Address:=ent_ok te_ok mix_ok (sc S_r04_ValidConf sn) (fn:=Tryz.f73) (by kernel_rfl) (by kernel_rfl) (F:=F_r04_Address) rfl
noncomputable def F_r06_Page (d:Pden [.val Y10,.val (.int .i64)]):Option (Rden [⟨Y4,[none],none⟩,⟨(.int .i64),[none],none⟩] × Oden [.val Y10,.val (.int .i64)]):=FT [E_r04_Proper.ent,E_r04_Address.ent,E_r05_At.ent,E_r03_Size.ent] [⟨0,[],⟨[4,5,7,8],[.val Y4,.val (.int .i64),.own 0,.val (.int .i64)],[.arr 37 (.int .u64)],[],[]⟩,[(.ret,⟨[4,5],[.val Y4,.val (.int .i64)],[],[],[]⟩),(.exit 0,⟨[4,5,7],[.val Y4,.val (.int .i64),.own 0],[.arr 37 (.int .u64)],[],[]⟩)]⟩] 70 Tryz.f17 [.p,.p] [.val Y10,.val (.int .i64)] [⟨Y4,[none],none⟩,⟨(.int .i64),[none],none⟩] d
noncomputable def E_r06_Page:Entry:=⟨17,[.p,.p],[.val Y10,.val (.int .i64)],[⟨Y4,[none],none⟩,⟨(.int .i64),[none],none⟩],F_r06_Page⟩
theorem S_r06_Page:Snd E_r06_Page:=ent_ok te_ok mix_ok (sc S_r04_Proper (sc S_r04_Address (sc S_r05_At (sc S_r03_Size sn)))) (fn:=Tryz.f17) (by kernel_rfl) (by kernel_rfl) (F:=F_r06_Page) rfl
noncomputable def F_r09_class (d:Pden [.val Y10,.val (.int .i64),.val Y4]):Option (Rden [⟨(.int .u64),[none],none⟩] × Oden [.val Y10,.val (.int .i64),.val Y4]):=FT [E_r05_At.ent,E_r03_Size.ent,E_r04_SmallWords.ent] [⟨0,[],⟨[6,7],[.val (.int .u64),.val (.int .i64)],[],[],[]⟩,[(.ret,⟨[6],[.val (.int .u64)],[],[],[]⟩),(.exit 0,⟨[6],[.val (.int .u64)],[],[],[]⟩)]⟩] 61 Tryz.f161 [.p,.p,.p] [.val Y10,.val (.int .i64),.val Y4] [⟨(.int .u64),[none],none⟩] d
noncomputable def E_r09_class:Entry:=⟨161,[.p,.p,.p],[.val Y10,.val (.int .i64),.val Y4],[⟨(.int .u64),[none],none⟩],F_r09_class⟩
theorem S_r09_class:Snd E_r09_class:=ent_ok te_ok mix_ok (sc S_r05_At (sc S_r03_Size (sc S_r04_SmallWords sn))) (fn:=Tryz.f161) (by kernel_rfl) (by kernel_rfl) (F:=F_r09_class) rfl
noncomputable def F_r09_head (d:Pden [.val Y10,.val (.int .i64)]):Option (Rden [⟨(.int .i64),[none],none⟩] × Oden [.val Y10,.val (.int .i64)]):=FT [] [⟨0,[],⟨[1],[.val (.int .i64)],[],[],[]⟩,[(.exit 0,⟨[1],[.val (.int .i64)],[],[],[]⟩)]⟩] 15 Tryz.f194 [.p,.p] [.val Y10,.val (.int .i64)] [⟨(.int .i64),[none],none⟩] d
noncomputable def E_r09_head:Entry:=⟨194,[.p,.p],[.val Y10,.val (.int .i64)],[⟨(.int .i64),[none],none⟩],F_r09_head⟩
theorem S_r09_head:Snd E_r09_head:=ent_ok te_ok mix_ok sn (fn:=Tryz.f194) (by kernel_rfl) (by kernel_rfl) (F:=F_r09_head) rfl
noncomputable def F_r09_used (d:Pden [.val Y10,.val (.int .i64),.val Y4]):Option (Rden [⟨Y18,[some 4],none⟩] × Oden [.val Y10,.val (.int .i64),.val Y4]):=FT [E_r05_At.ent,E_r03_Size.ent] [⟨2,[],⟨[12],[.val (.int .i64)],[],[323],[.arr 4 .bool]⟩,[(.exit 2,⟨[],[],[],[323],[.arr 4 .bool]⟩)]⟩,⟨0,[],⟨[8],[.val (.int .i64)],[],[323],[.arr 4 .bool]⟩,[(.exit 0,⟨[],[],[],[323],[.arr 4 .bool]⟩)]⟩] 69 Tryz.f195 [.p,.p,.p] [.val Y10,.val (.int .i64),.val Y4] [⟨Y18,[some 4],none⟩] d
noncomputable def E_r09_used:Entry:=⟨195,[.p,.p,.p],[.val Y10,.val (.int .i64),.val Y4],[⟨Y18,[some 4],none⟩],F_r09_used⟩
theorem S_r09_used:Snd E_r09_used:=ent_ok te_ok mix_ok (sc S_r05_At (sc S_r03_Size sn)) (fn:=Tryz.f195) (by kernel_rfl) (by kernel_rfl) (F:=F_r09_used) rfl
noncomputable def F_r06_word (d:Pden [.val Y10,.val (.int .i64),.val (.int .i64)]):Option (Rden [⟨(.int .u64),[none],none⟩] × Oden [.val Y10,.val (.int .i64),.val (.int .i64)]):=FT [E_r04_Address.ent,E_r02_Load.ent] [] 27 Tryz.f218 [.p,.p,.p] [.val Y10,.val (.int .i64),.val (.int .i64)] [⟨(.int .u64),[none],none⟩] d
noncomputable def E_r06_word:Entry:=⟨218,[.p,.p,.p],[.val Y10,.val (.int .i64),.val (.int .i64)],[⟨(.int .u64),[none],none⟩],F_r06_word⟩
theorem S_r06_word:Snd E_r06_word:=ent_ok te_ok mix_ok (sc S_r04_Address (sc S_r02_Load sn)) (fn:=Tryz.f218) (by kernel_rfl) (by kernel_rfl) (F:=F_r06_word) rfl
noncomputable def F_r06_Word (d:Pden [.val Y10,.val (.int .i64),.val (.int .i64)]):Option (Rden [⟨(.int .u64),[none],none⟩] × Oden [.val Y10,.val (.int .i64),.val (.int .i64)]):=FT [E_r06_word.ent] [] 11 Tryz.f196 [.p,.p,.p] [.val Y10,.val (.int .i64),.val (.int .i64)] [⟨(.int .u64),[none],none⟩] d
noncomputable def E_r06_Word:Entry:=⟨196,[.p,.p,.p],[.val Y10,.val (.int .i64),.val (.int .i64)],[⟨(.int .u64),[none],none⟩],F_r06_Word⟩
theorem S_r06_Word:Snd E_r06_Word:=ent_ok te_ok mix_ok (sc S_r06_word sn) (fn:=Tryz.f196) (by kernel_rfl) (by kernel_rfl) (F:=F_r06_Word) rfl
noncomputable def F_r09_address (d:Pden [.val Y10,.val (.int .i64),.val (.int .i64)]):Option (Rden [⟨(.int .u64),[none],none⟩] × Oden [.val Y10,.val (.int .i64),.val (.int .i64)]):=FT [] [] 16 Tryz.f197 [.p,.p,.p] [.val Y10,.val (.int .i64),.val (.int .i64)] [⟨(.int .u64),[none],none⟩] d
noncomputable def E_r09_address:Entry:=⟨197,[.p,.p,.p],[.val Y10,.val (.int .i64),.val (.int .i64)],[⟨(.int .u64),[none],none⟩],F_r09_address⟩
theorem S_r09_address:Snd E_r09_address:=ent_ok te_ok mix_ok sn (fn:=Tryz.f197) (by kernel_rfl) (by kernel_rfl) (F:=F_r09_address) rfl
noncomputable def F_r09_dirt (d:Pden [.val Y10,.val (.int .i64)]):Option (Rden [⟨(.int .u64),[none],none⟩] × Oden [.val Y10,.val (.int .i64)]):=FT [E_r09_head.ent,E_r06_Page.ent,E_r09_used.ent,E_r06_Word.ent,E_r09_address.ent] [⟨0,[],⟨[4,8],[.val (.int .u64),.val (.int .i64)],[],[],[]⟩,[(.ret,⟨[4],[.val (.int .u64)],[],[],[]⟩),(.exit 0,⟨[4],[.val (.int .u64)],[],[],[]⟩)]⟩] 43 Tryz.f162 [.p,.p] [.val Y10,.val (.int .i64)] [⟨(.int .u64),[none],none⟩] d
noncomputable def E_r09_dirt:Entry:=⟨162,[.p,.p],[.val Y10,.val (.int .i64)],[⟨(.int .u64),[none],none⟩],F_r09_dirt⟩
theorem S_r09_dirt:Snd E_r09_dirt:=ent_ok te_ok mix_ok (sc S_r09_head (sc S_r06_Page (sc S_r09_used (sc S_r06_Word (sc S_r09_address sn))))) (fn:=Tryz.f162) (by kernel_rfl) (by kernel_rfl) (F:=F_r09_dirt) rfl
noncomputable def F_r09_page (d:Pden [.val Y10,.val (.int .i64)]):Option (Rden [⟨Y21,[none,none,none],none⟩] × Oden [.val Y10,.val (.int .i64)]):=FT [E_r06_Page.ent,E_r09_class.ent,E_r09_dirt.ent] [] 57 Tryz.f113 [.p,.p] [.val Y10,.val (.int .i64)] [⟨Y21,[none,none,none],none⟩] d
noncomputable def E_r09_page:Entry:=⟨113,[.p,.p],[.val Y10,.val (.int .i64)],[⟨Y21,[none,none,none],none⟩],F_r09_page⟩
theorem S_r09_page:Snd E_r09_page:=ent_ok te_ok mix_ok (sc S_r06_Page (sc S_r09_class (sc S_r09_dirt sn))) (fn:=Tryz.f113) (by kernel_rfl) (by kernel_rfl) (F:=F_r09_page) rfl
noncomputable def F_r06_Starts (d:Pden [.val Y10]):Option (Rden [⟨Y4,[none],none⟩,⟨(.int .i64),[none],none⟩] × Oden [.val Y10]):=FT [E_r04_Proper.ent,E_r06_Page.ent] [⟨0,[],⟨[2,3,4,5],[.val Y4,.val (.int .i64),.own 0,.val (.int .i64)],[.arr 37 (.int .u64)],[],[]⟩,[(.ret,⟨[2,3],[.val Y4,.val (.int .i64)],[],[],[]⟩),(.exit 0,⟨[2,3,4],[.val Y4,.val (.int .i64),.own 0],[.arr 37 (.int .u64)],[],[]⟩)]⟩] 31 Tryz.f21 [.p] [.val Y10] [⟨Y4,[none],none⟩,⟨(.int .i64),[none],none⟩] d
noncomputable def E_r06_Starts:Entry:=⟨21,[.p],[.val Y10],[⟨Y4,[none],none⟩,⟨(.int .i64),[none],none⟩],F_r06_Starts⟩
theorem S_r06_Starts:Snd E_r06_Starts:=ent_ok te_ok mix_ok (sc S_r04_Proper (sc S_r06_Page sn)) (fn:=Tryz.f21) (by kernel_rfl) (by kernel_rfl) (F:=F_r06_Starts) rfl
noncomputable def F_r06_Objects (d:Pden [.val Y10]):Option (Rden [⟨Y4,[some 37],none⟩,⟨(.int .i64),[none],none⟩] × Oden [.val Y10]):=FT [E_r06_Starts.ent,E_r05_At.ent] [⟨0,[],⟨[6,7],[.own 0,.val (.int .i64)],[.arr 37 (.int .u64)],[],[]⟩,[(.exit 0,⟨[6],[.own 0],[.arr 37 (.int .u64)],[],[]⟩)]⟩] 42 Tryz.f23 [.p] [.val Y10] [⟨Y4,[some 37],none⟩,⟨(.int .i64),[none],none⟩] d
noncomputable def E_r06_Objects:Entry:=⟨23,[.p],[.val Y10],[⟨Y4,[some 37],none⟩,⟨(.int .i64),[none],none⟩],F_r06_Objects⟩
theorem S_r06_Objects:Snd E_r06_Objects:=ent_ok te_ok mix_ok (sc S_r06_Starts (sc S_r05_At sn)) (fn:=Tryz.f23) (by kernel_rfl) (by kernel_rfl) (F:=F_r06_Objects) rfl
noncomputable def F_r02_Read (d:Pden [.val Y4,.val (.int .u64),.val (.int .i64)]):Option (Rden [⟨Y4,[some 37],none⟩,⟨(.int .i64),[none],none⟩] × Oden [.val Y4,.val (.int .u64),.val (.int .i64)]):=FT [E_r02_span.ent] [] 29 Tryz.f97 [.p,.p,.p] [.val Y4,.val (.int .u64),.val (.int .i64)] [⟨Y4,[some 37],none⟩,⟨(.int .i64),[none],none⟩] d
noncomputable def E_r02_Read:Entry:=⟨97,[.p,.p,.p],[.val Y4,.val (.int .u64),.val (.int .i64)],[⟨Y4,[some 37],none⟩,⟨(.int .i64),[none],none⟩],F_r02_Read⟩
theorem S_r02_Read:Snd E_r02_Read:=ent_ok te_ok mix_ok (sc S_r02_span sn) (fn:=Tryz.f97) (by kernel_rfl) (by kernel_rfl) (F:=F_r02_Read) rfl
noncomputable def F_r05_Fields (d:Pden [.val Y10,.val (.int .u64)]):Option (Rden [⟨Y4,[some 37],none⟩,⟨(.int .i64),[none],none⟩] × Oden [.val Y10,.val (.int .u64)]):=FT [E_r05_Get.ent,E_r02_Read.ent] [] 26 Tryz.f46 [.p,.p] [.val Y10,.val (.int .u64)] [⟨Y4,[some 37],none⟩,⟨(.int .i64),[none],none⟩] d
noncomputable def E_r05_Fields:Entry:=⟨46,[.p,.p],[.val Y10,.val (.int .u64)],[⟨Y4,[some 37],none⟩,⟨(.int .i64),[none],none⟩],F_r05_Fields⟩
theorem S_r05_Fields:Snd E_r05_Fields:=ent_ok te_ok mix_ok (sc S_r05_Get (sc S_r02_Read sn)) (fn:=Tryz.f46) (by kernel_rfl) (by kernel_rfl) (F:=F_r05_Fields) rfl
noncomputable def F_r06_Has (d:Pden [.val Y4,.val (.int .u64)]):Option (Rden [⟨.bool,[none],none⟩] × Oden [.val Y4,.val (.int .u64)]):=FT [] [⟨0,[],⟨[4,5],[.val .bool,.val (.int .i64)],[],[],[]⟩,[(.ret,⟨[4],[.val .bool],[],[],[]⟩),(.exit 0,⟨[4],[.val .bool],[],[],[]⟩)]⟩] 18 Tryz.f44 [.p,.p] [.val Y4,.val (.int .u64)] [⟨.bool,[none],none⟩] d
noncomputable def E_r06_Has:Entry:=⟨44,[.p,.p],[.val Y4,.val (.int .u64)],[⟨.bool,[none],none⟩],F_r06_Has⟩
theorem S_r06_Has:Snd E_r06_Has:=ent_ok te_ok mix_ok sn (fn:=Tryz.f44) (by kernel_rfl) (by kernel_rfl) (F:=F_r06_Has) rfl
noncomputable def F_r09_pointers (d:Pden [.val Y10]):Option (Rden [⟨Y21,[none,none,none],none⟩] × Oden [.val Y10]):=FT [E_r06_Objects.ent,E_r05_Get.ent,E_r05_Fields.ent,E_r03_Pointer.ent,E_r06_Has.ent,E_r04_Of.ent] [⟨2,[],⟨[10],[.val (.int .i64)],[],[65],[.box 106 [.val (.int .i64),.val (.int .i64),.val (.int .u64)]]⟩,[(.ret,⟨[],[],[],[65],[.box 106 [.val (.int .i64),.val (.int .i64),.val (.int .u64)]]⟩),(.exit 2,⟨[],[],[],[65],[.box 106 [.val (.int .i64),.val (.int .i64),.val (.int .u64)]]⟩)]⟩,⟨0,[],⟨[5],[.val (.int .i64)],[],[65],[.box 106 [.val (.int .i64),.val (.int .i64),.val (.int .u64)]]⟩,[(.ret,⟨[],[],[],[65],[.box 106 [.val (.int .i64),.val (.int .i64),.val (.int .u64)]]⟩),(.exit 0,⟨[],[],[],[65],[.box 106 [.val (.int .i64),.val (.int .i64),.val (.int .u64)]]⟩)]⟩] 89 Tryz.f114 [.p] [.val Y10] [⟨Y21,[none,none,none],none⟩] d
noncomputable def E_r09_pointers:Entry:=⟨114,[.p],[.val Y10],[⟨Y21,[none,none,none],none⟩],F_r09_pointers⟩
theorem S_r09_pointers:Snd E_r09_pointers:=ent_ok te_ok mix_ok (sc S_r06_Objects (sc S_r05_Get (sc S_r05_Fields (sc S_r03_Pointer (sc S_r06_Has (sc S_r04_Of sn)))))) (fn:=Tryz.f114) (by kernel_rfl) (by kernel_rfl) (F:=F_r09_pointers) rfl
noncomputable def F_r09_Check (d:Pden [.val Y10]):Option (Rden [⟨Y21,[none,none,none],none⟩] × Oden [.val Y10]):=FT [E_r04_Proper.ent,E_r09_page.ent,E_r09_pointers.ent] [⟨0,[],⟨[3],[.val (.int .i64)],[],[65],[.box 106 [.val (.int .i64),.val (.int .i64),.val (.int .u64)]]⟩,[(.ret,⟨[],[],[],[65],[.box 106 [.val (.int .i64),.val (.int .i64),.val (.int .u64)]]⟩),(.exit 0,⟨[],[],[],[65],[.box 106 [.val (.int .i64),.val (.int .i64),.val (.int .u64)]]⟩)]⟩,⟨2,[],⟨[6,7],[.val (.int .i64),.val (.int .i64)],[],[],[]⟩,[(.exit 2,⟨[6],[.val (.int .i64)],[],[],[]⟩)]⟩] 65 Tryz.f63 [.p] [.val Y10] [⟨Y21,[none,none,none],none⟩] d
noncomputable def E_r09_Check:Entry:=⟨63,[.p],[.val Y10],[⟨Y21,[none,none,none],none⟩],F_r09_Check⟩
theorem S_r09_Check:Snd E_r09_Check:=ent_ok te_ok mix_ok (sc S_r04_Proper (sc S_r09_page (sc S_r09_pointers sn))) (fn:=Tryz.f63) (by kernel_rfl) (by kernel_rfl) (F:=F_r09_Check) rfl
noncomputable def F_r09_Good (d:Pden [.val Y10]):Option (Rden [⟨.bool,[none],none⟩] × Oden [.val Y10]):=FT [E_r09_Check.ent] [] 7 Tryz.f45 [.p] [.val Y10] [⟨.bool,[none],none⟩] d
noncomputable def E_r09_Good:Entry:=⟨45,[.p],[.val Y10],[⟨.bool,[none],none⟩],F_r09_Good⟩
theorem S_r09_Good:Snd E_r09_Good:=ent_ok te_ok mix_ok (sc S_r09_Check sn) (fn:=Tryz.f45) (by kernel_rfl) (by kernel_rfl) (F:=F_r09_Good) rfl
noncomputable def F_r09_Refers (d:Pden [.val Y10,.val Y4]):Option (Rden [⟨.bool,[none],none⟩] × Oden [.val Y10,.val Y4]):=FT [E_r09_Good.ent,E_r06_Objects.ent,E_r06_Has.ent] [⟨0,[],⟨[4,7],[.val .bool,.val (.int .i64)],[],[],[]⟩,[(.ret,⟨[4],[.val .bool],[],[],[]⟩),(.exit 0,⟨[4],[.val .bool],[],[],[]⟩)]⟩] 36 Tryz.f67 [.p,.p] [.val Y10,.val Y4] [⟨.bool,[none],none⟩] d
noncomputable def E_r09_Refers:Entry:=⟨67,[.p,.p],[.val Y10,.val Y4],[⟨.bool,[none],none⟩],F_r09_Refers⟩
theorem S_r09_Refers:Snd E_r09_Refers:=ent_ok te_ok mix_ok (sc S_r09_Good (sc S_r06_Objects (sc S_r06_Has sn))) (fn:=Tryz.f67) (by kernel_rfl) (by kernel_rfl) (F:=F_r09_Refers) rfl
noncomputable def F_r10_Begin (d:Pden [.val Y10]):Option (Rden [⟨Y29,[none,none,none,some 63,none,none,some 37,none,none,none,none,none,none,none,none,none],none⟩,⟨(.int .i64),[none],none⟩] × Oden [.val Y10]):=FT [E_r04_Proper.ent,E_r09_Good.ent,E_r06_Objects.ent] [⟨0,[],⟨[5],[.val (.int .i64)],[],[1857],[.arr 63 Y6]⟩,[(.exit 0,⟨[],[],[],[1857],[.arr 63 Y6]⟩)]⟩] 61 Tryz.f209 [.p] [.val Y10] [⟨Y29,[none,none,none,some 63,none,none,some 37,none,none,none,none,none,none,none,none,none],none⟩,⟨(.int .i64),[none],none⟩] d
noncomputable def E_r10_Begin:Entry:=⟨209,[.p],[.val Y10],[⟨Y29,[none,none,none,some 63,none,none,some 37,none,none,none,none,none,none,none,none,none],none⟩,⟨(.int .i64),[none],none⟩],F_r10_Begin⟩
theorem S_r10_Begin:Snd E_r10_Begin:=ent_ok te_ok mix_ok (sc S_r04_Proper (sc S_r09_Good (sc S_r06_Objects sn))) (fn:=Tryz.f209) (by kernel_rfl) (by kernel_rfl) (F:=F_r10_Begin) rfl
noncomputable def F_r03_Target (d:Pden [.val (.int .u64)]):Option (Rden [⟨(.int .u64),[none],none⟩,⟨.bool,[none],none⟩] × Oden [.val (.int .u64)]):=FT [] [] 14 Tryz.f224 [.p] [.val (.int .u64)] [⟨(.int .u64),[none],none⟩,⟨.bool,[none],none⟩] d
noncomputable def E_r03_Target:Entry:=⟨224,[.p],[.val (.int .u64)],[⟨(.int .u64),[none],none⟩,⟨.bool,[none],none⟩],F_r03_Target⟩
theorem S_r03_Target:Snd E_r03_Target:=ent_ok te_ok mix_ok sn (fn:=Tryz.f224) (by kernel_rfl) (by kernel_rfl) (F:=F_r03_Target) rfl
noncomputable def F_r10_taken (d:Pden [.val Y29,.val (.int .i64)]):Option (Rden [⟨.bool,[none],none⟩] × Oden [.val Y29,.val (.int .i64)]):=FT [] [⟨0,[],⟨[4,5],[.val .bool,.val (.int .i64)],[],[],[]⟩,[(.ret,⟨[4],[.val .bool],[],[],[]⟩),(.exit 0,⟨[4],[.val .bool],[],[],[]⟩)]⟩] 20 Tryz.f233 [.p,.p] [.val Y29,.val (.int .i64)] [⟨.bool,[none],none⟩] d
noncomputable def E_r10_taken:Entry:=⟨233,[.p,.p],[.val Y29,.val (.int .i64)],[⟨.bool,[none],none⟩],F_r10_taken⟩
theorem S_r10_taken:Snd E_r10_taken:=ent_ok te_ok mix_ok sn (fn:=Tryz.f233) (by kernel_rfl) (by kernel_rfl) (F:=F_r10_taken) rfl
noncomputable def F_r10_Promoted (d:Pden [.val Y29,.val (.int .i64)]):Option (Rden [⟨.bool,[none],none⟩] × Oden [.val Y29,.val (.int .i64)]):=FT [E_r10_taken.ent] [] 39 Tryz.f225 [.p,.p] [.val Y29,.val (.int .i64)] [⟨.bool,[none],none⟩] d
noncomputable def E_r10_Promoted:Entry:=⟨225,[.p,.p],[.val Y29,.val (.int .i64)],[⟨.bool,[none],none⟩],F_r10_Promoted⟩
theorem S_r10_Promoted:Snd E_r10_Promoted:=ent_ok te_ok mix_ok (sc S_r10_taken sn) (fn:=Tryz.f225) (by kernel_rfl) (by kernel_rfl) (F:=F_r10_Promoted) rfl
noncomputable def F_r10_keep (d:Pden [.val Y29,.val (.int .u64)]):Option (Rden [⟨Y29,[none,none,none,none,none,none,none,none,some 37,none,none,none,none,none,none,none],none⟩] × Oden [.val Y29,.val (.int .u64)]):=FT [] [] 20 Tryz.f228 [.p,.p] [.val Y29,.val (.int .u64)] [⟨Y29,[none,none,none,none,none,none,none,none,some 37,none,none,none,none,none,none,none],none⟩] d
noncomputable def E_r10_keep:Entry:=⟨228,[.p,.p],[.val Y29,.val (.int .u64)],[⟨Y29,[none,none,none,none,none,none,none,none,some 37,none,none,none,none,none,none,none],none⟩],F_r10_keep⟩
theorem S_r10_keep:Snd E_r10_keep:=ent_ok te_ok mix_ok sn (fn:=Tryz.f228) (by kernel_rfl) (by kernel_rfl) (F:=F_r10_keep) rfl
noncomputable def F_r10_place (d:Pden [.val Y29,.val (.int .i64)]):Option (Rden [⟨Y29,[none,none,none,some 63,none,none,none,none,none,none,none,none,none,none,none,none],none⟩,⟨(.int .u64),[none],none⟩,⟨.bool,[none],none⟩] × Oden [.val Y29,.val (.int .i64)]):=FT [E_r04_First.ent,E_r04_Small_o.ent] [] 111 Tryz.f229 [.p,.p] [.val Y29,.val (.int .i64)] [⟨Y29,[none,none,none,some 63,none,none,none,none,none,none,none,none,none,none,none,none],none⟩,⟨(.int .u64),[none],none⟩,⟨.bool,[none],none⟩] d
noncomputable def E_r10_place:Entry:=⟨229,[.p,.p],[.val Y29,.val (.int .i64)],[⟨Y29,[none,none,none,some 63,none,none,none,none,none,none,none,none,none,none,none,none],none⟩,⟨(.int .u64),[none],none⟩,⟨.bool,[none],none⟩],F_r10_place⟩
theorem S_r10_place:Snd E_r10_place:=ent_ok te_ok mix_ok (sc S_r04_First (sc S_r04_Small_o sn)) (fn:=Tryz.f229) (by kernel_rfl) (by kernel_rfl) (F:=F_r10_place) rfl
noncomputable def F_r02_Move (d:Pden [.val Y4,.val (.int .u64),.val (.int .u64),.val (.int .i64)]):Option (Rden [⟨Y4,[some 37],none⟩,⟨(.int .i64),[none],none⟩] × Oden [.val Y4,.val (.int .u64),.val (.int .u64),.val (.int .i64)]):=FT [E_r02_Read.ent,E_r02_Write.ent] [] 28 Tryz.f230 [.p,.p,.p,.p] [.val Y4,.val (.int .u64),.val (.int .u64),.val (.int .i64)] [⟨Y4,[some 37],none⟩,⟨(.int .i64),[none],none⟩] d
noncomputable def E_r02_Move:Entry:=⟨230,[.p,.p,.p,.p],[.val Y4,.val (.int .u64),.val (.int .u64),.val (.int .i64)],[⟨Y4,[some 37],none⟩,⟨(.int .i64),[none],none⟩],F_r02_Move⟩
theorem S_r02_Move:Snd E_r02_Move:=ent_ok te_ok mix_ok (sc S_r02_Read (sc S_r02_Write sn)) (fn:=Tryz.f230) (by kernel_rfl) (by kernel_rfl) (F:=F_r02_Move) rfl
noncomputable def F_r03_Forward (d:Pden [.val (.int .u64)]):Option (Rden [⟨(.int .u64),[none],none⟩,⟨(.int .i64),[none],none⟩] × Oden [.val (.int .u64)]):=FT [] [] 9 Tryz.f231 [.p] [.val (.int .u64)] [⟨(.int .u64),[none],none⟩,⟨(.int .i64),[none],none⟩] d
noncomputable def E_r03_Forward:Entry:=⟨231,[.p],[.val (.int .u64)],[⟨(.int .u64),[none],none⟩,⟨(.int .i64),[none],none⟩],F_r03_Forward⟩
theorem S_r03_Forward:Snd E_r03_Forward:=ent_ok te_ok mix_ok sn (fn:=Tryz.f231) (by kernel_rfl) (by kernel_rfl) (F:=F_r03_Forward) rfl
noncomputable def F_r10_Forward (d:Pden [.val Y29,.val (.int .u64)]):Option (Rden [⟨Y29,[none,none,none,none,none,none,none,none,none,none,none,none,none,none,none,none],none⟩,⟨(.int .u64),[none],none⟩,⟨(.int .i64),[none],none⟩] × Oden [.val Y29,.val (.int .u64)]):=FT [E_r06_Has.ent,E_r02_Load.ent,E_r03_Target.ent,E_r04_Of.ent,E_r10_Promoted.ent,E_r10_keep.ent,E_r03_Decode.ent,E_r03_Size.ent,E_r10_place.ent,E_r02_Move.ent,E_r03_Forward.ent,E_r02_Store.ent] [⟨0,[],⟨[14],[.val (.int .i64)],[],[6210],[.arr 63 Y6]⟩,[(.exit 0,⟨[],[],[],[6210],[.arr 63 Y6]⟩)]⟩] 202 Tryz.f222 [.p,.p] [.val Y29,.val (.int .u64)] [⟨Y29,[none,none,none,none,none,none,none,none,none,none,none,none,none,none,none,none],none⟩,⟨(.int .u64),[none],none⟩,⟨(.int .i64),[none],none⟩] d
noncomputable def E_r10_Forward:Entry:=⟨222,[.p,.p],[.val Y29,.val (.int .u64)],[⟨Y29,[none,none,none,none,none,none,none,none,none,none,none,none,none,none,none,none],none⟩,⟨(.int .u64),[none],none⟩,⟨(.int .i64),[none],none⟩],F_r10_Forward⟩
theorem S_r10_Forward:Snd E_r10_Forward:=ent_ok te_ok mix_ok (sc S_r06_Has (sc S_r02_Load (sc S_r03_Target (sc S_r04_Of (sc S_r10_Promoted (sc S_r10_keep (sc S_r03_Decode (sc S_r03_Size (sc S_r10_place (sc S_r02_Move (sc S_r03_Forward (sc S_r02_Store sn)))))))))))) (fn:=Tryz.f222) (by kernel_rfl) (by kernel_rfl) (F:=F_r10_Forward) rfl
noncomputable def F_r11_Roots (d:Pden [.val Y29,.val Y4]):Option (Rden [⟨Y29,[none,none,none,none,none,none,none,none,none,none,none,none,none,none,none,none],none⟩,⟨Y4,[none],none⟩,⟨(.int .i64),[none],none⟩] × Oden [.val Y29,.val Y4]):=FT [E_r10_Forward.ent] [⟨0,[],⟨[5,6,7,8],[.val Y4,.val (.int .i64),.own 0,.val (.int .i64)],[.arr 37 (.int .u64)],[2,66],[.box 237 [.val (.int .i64),.val (.int .i64),.val Y4,.val Y7,.val (.int .i64),.val (.int .i64),.val Y4,.val Y0,.val Y4,.val (.int .i64),.val (.int .i64),.val (.int .i64),.val (.int .i64),.val (.int .i64),.val (.int .i64),.val (.int .i64)],.box 237 [.val (.int .i64),.val (.int .i64),.val Y4,.val Y7,.val (.int .i64),.val (.int .i64),.val Y4,.val Y0,.val Y4,.val (.int .i64),.val (.int .i64),.val (.int .i64),.val (.int .i64),.val (.int .i64),.val (.int .i64),.val (.int .i64)]]⟩,[(.ret,⟨[5,6],[.val Y4,.val (.int .i64)],[],[2,66],[.box 237 [.val (.int .i64),.val (.int .i64),.val Y4,.val Y7,.val (.int .i64),.val (.int .i64),.val Y4,.val Y0,.val Y4,.val (.int .i64),.val (.int .i64),.val (.int .i64),.val (.int .i64),.val (.int .i64),.val (.int .i64),.val (.int .i64)],.box 237 [.val (.int .i64),.val (.int .i64),.val Y4,.val Y7,.val (.int .i64),.val (.int .i64),.val Y4,.val Y0,.val Y4,.val (.int .i64),.val (.int .i64),.val (.int .i64),.val (.int .i64),.val (.int .i64),.val (.int .i64),.val (.int .i64)]]⟩),(.exit 0,⟨[5,6,7],[.val Y4,.val (.int .i64),.own 0],[.arr 37 (.int .u64)],[2,66],[.box 237 [.val (.int .i64),.val (.int .i64),.val Y4,.val Y7,.val (.int .i64),.val (.int .i64),.val Y4,.val Y0,.val Y4,.val (.int .i64),.val (.int .i64),.val (.int .i64),.val (.int .i64),.val (.int .i64),.val (.int .i64),.val (.int .i64)],.box 237 [.val (.int .i64),.val (.int .i64),.val Y4,.val Y7,.val (.int .i64),.val (.int .i64),.val Y4,.val Y0,.val Y4,.val (.int .i64),.val (.int .i64),.val (.int .i64),.val (.int .i64),.val (.int .i64),.val (.int .i64),.val (.int .i64)]]⟩)]⟩] 39 Tryz.f210 [.p,.p] [.val Y29,.val Y4] [⟨Y29,[none,none,none,none,none,none,none,none,none,none,none,none,none,none,none,none],none⟩,⟨Y4,[none],none⟩,⟨(.int .i64),[none],none⟩] d
noncomputable def E_r11_Roots:Entry:=⟨210,[.p,.p],[.val Y29,.val Y4],[⟨Y29,[none,none,none,none,none,none,none,none,none,none,none,none,none,none,none,none],none⟩,⟨Y4,[none],none⟩,⟨(.int .i64),[none],none⟩],F_r11_Roots⟩
theorem S_r11_Roots:Snd E_r11_Roots:=ent_ok te_ok mix_ok (sc S_r10_Forward sn) (fn:=Tryz.f210) (by kernel_rfl) (by kernel_rfl) (F:=F_r11_Roots) rfl
noncomputable def F_r10_Get (d:Pden [.val Y29,.val (.int .u64)]):Option (Rden [⟨Y16,[none,none,none],none⟩] × Oden [.val Y29,.val (.int .u64)]):=FT [E_r02_Load.ent,E_r03_Decode.ent] [] 23 Tryz.f226 [.p,.p] [.val Y29,.val (.int .u64)] [⟨Y16,[none,none,none],none⟩] d
noncomputable def E_r10_Get:Entry:=⟨226,[.p,.p],[.val Y29,.val (.int .u64)],[⟨Y16,[none,none,none],none⟩],F_r10_Get⟩
theorem S_r10_Get:Snd E_r10_Get:=ent_ok te_ok mix_ok (sc S_r02_Load (sc S_r03_Decode sn)) (fn:=Tryz.f226) (by kernel_rfl) (by kernel_rfl) (F:=F_r10_Get) rfl
noncomputable def F_r03_Pointers (d:Pden [.val Y16]):Option (Rden [⟨Y0,[some 3],none⟩] × Oden [.val Y16]):=FT [E_r03_Valid.ent,E_r03_Pointer.ent] [⟨0,[],⟨[3,4],[.own 0,.val (.int .i64)],[.arr 3 (.int .i64)],[],[]⟩,[(.exit 0,⟨[3],[.own 0],[.arr 3 (.int .i64)],[],[]⟩)]⟩] 23 Tryz.f232 [.p] [.val Y16] [⟨Y0,[some 3],none⟩] d
noncomputable def E_r03_Pointers:Entry:=⟨232,[.p],[.val Y16],[⟨Y0,[some 3],none⟩],F_r03_Pointers⟩
theorem S_r03_Pointers:Snd E_r03_Pointers:=ent_ok te_ok mix_ok (sc S_r03_Valid (sc S_r03_Pointer sn)) (fn:=Tryz.f232) (by kernel_rfl) (by kernel_rfl) (F:=F_r03_Pointers) rfl
noncomputable def F_r11_Step (d:Pden [.val Y29]):Option (Rden [⟨Y29,[none,none,none,none,none,none,none,none,none,none,none,none,none,none,none,none],none⟩,⟨.bool,[none],none⟩,⟨(.int .i64),[none],none⟩] × Oden [.val Y29]):=FT [E_r10_Get.ent,E_r03_Pointers.ent,E_r02_Load.ent,E_r10_Forward.ent,E_r02_Store.ent] [⟨0,[],⟨[3,4,7],[.val .bool,.val (.int .i64),.val (.int .i64)],[],[1,65],[.box 237 [.val (.int .i64),.val (.int .i64),.val Y4,.val Y7,.val (.int .i64),.val (.int .i64),.val Y4,.val Y0,.val Y4,.val (.int .i64),.val (.int .i64),.val (.int .i64),.val (.int .i64),.val (.int .i64),.val (.int .i64),.val (.int .i64)],.box 237 [.val (.int .i64),.val (.int .i64),.val Y4,.val Y7,.val (.int .i64),.val (.int .i64),.val Y4,.val Y0,.val Y4,.val (.int .i64),.val (.int .i64),.val (.int .i64),.val (.int .i64),.val (.int .i64),.val (.int .i64),.val (.int .i64)]]⟩,[(.ret,⟨[3,4],[.val .bool,.val (.int .i64)],[],[1,65],[.box 237 [.val (.int .i64),.val (.int .i64),.val Y4,.val Y7,.val (.int .i64),.val (.int .i64),.val Y4,.val Y0,.val Y4,.val (.int .i64),.val (.int .i64),.val (.int .i64),.val (.int .i64),.val (.int .i64),.val (.int .i64),.val (.int .i64)],.box 237 [.val (.int .i64),.val (.int .i64),.val Y4,.val Y7,.val (.int .i64),.val (.int .i64),.val Y4,.val Y0,.val Y4,.val (.int .i64),.val (.int .i64),.val (.int .i64),.val (.int .i64),.val (.int .i64),.val (.int .i64),.val (.int .i64)]]⟩),(.exit 0,⟨[3,4],[.val .bool,.val (.int .i64)],[],[1,65],[.box 237 [.val (.int .i64),.val (.int .i64),.val Y4,.val Y7,.val (.int .i64),.val (.int .i64),.val Y4,.val Y0,.val Y4,.val (.int .i64),.val (.int .i64),.val (.int .i64),.val (.int .i64),.val (.int .i64),.val (.int .i64),.val (.int .i64)],.box 237 [.val (.int .i64),.val (.int .i64),.val Y4,.val Y7,.val (.int .i64),.val (.int .i64),.val Y4,.val Y0,.val Y4,.val (.int .i64),.val (.int .i64),.val (.int .i64),.val (.int .i64),.val (.int .i64),.val (.int .i64),.val (.int .i64)]]⟩)]⟩] 90 Tryz.f223 [.p] [.val Y29] [⟨Y29,[none,none,none,none,none,none,none,none,none,none,none,none,none,none,none,none],none⟩,⟨.bool,[none],none⟩,⟨(.int .i64),[none],none⟩] d
noncomputable def E_r11_Step:Entry:=⟨223,[.p],[.val Y29],[⟨Y29,[none,none,none,none,none,none,none,none,none,none,none,none,none,none,none,none],none⟩,⟨.bool,[none],none⟩,⟨(.int .i64),[none],none⟩],F_r11_Step⟩
theorem S_r11_Step:Snd E_r11_Step:=ent_ok te_ok mix_ok (sc S_r10_Get (sc S_r03_Pointers (sc S_r02_Load (sc S_r10_Forward (sc S_r02_Store sn))))) (fn:=Tryz.f223) (by kernel_rfl) (by kernel_rfl) (F:=F_r11_Step) rfl
noncomputable def F_r11_All (d:Pden [.val Y29]):Option (Rden [⟨Y29,[none,none,none,none,none,none,none,none,none,none,none,none,none,none,none,none],none⟩,⟨(.int .i64),[none],none⟩] × Oden [.val Y29]):=FT [E_r11_Step.ent] [⟨0,[],⟨[3],[.val (.int .i64)],[],[1,65],[.box 237 [.val (.int .i64),.val (.int .i64),.val Y4,.val Y7,.val (.int .i64),.val (.int .i64),.val Y4,.val Y0,.val Y4,.val (.int .i64),.val (.int .i64),.val (.int .i64),.val (.int .i64),.val (.int .i64),.val (.int .i64),.val (.int .i64)],.box 237 [.val (.int .i64),.val (.int .i64),.val Y4,.val Y7,.val (.int .i64),.val (.int .i64),.val Y4,.val Y0,.val Y4,.val (.int .i64),.val (.int .i64),.val (.int .i64),.val (.int .i64),.val (.int .i64),.val (.int .i64),.val (.int .i64)]]⟩,[(.ret,⟨[3],[.val (.int .i64)],[],[1,65],[.box 237 [.val (.int .i64),.val (.int .i64),.val Y4,.val Y7,.val (.int .i64),.val (.int .i64),.val Y4,.val Y0,.val Y4,.val (.int .i64),.val (.int .i64),.val (.int .i64),.val (.int .i64),.val (.int .i64),.val (.int .i64),.val (.int .i64)],.box 237 [.val (.int .i64),.val (.int .i64),.val Y4,.val Y7,.val (.int .i64),.val (.int .i64),.val Y4,.val Y0,.val Y4,.val (.int .i64),.val (.int .i64),.val (.int .i64),.val (.int .i64),.val (.int .i64),.val (.int .i64),.val (.int .i64)]]⟩)]⟩] 21 Tryz.f211 [.p] [.val Y29] [⟨Y29,[none,none,none,none,none,none,none,none,none,none,none,none,none,none,none,none],none⟩,⟨(.int .i64),[none],none⟩] d
noncomputable def E_r11_All:Entry:=⟨211,[.p],[.val Y29],[⟨Y29,[none,none,none,none,none,none,none,none,none,none,none,none,none,none,none,none],none⟩,⟨(.int .i64),[none],none⟩],F_r11_All⟩
theorem S_r11_All:Snd E_r11_All:=ent_ok te_ok mix_ok (sc S_r11_Step sn) (fn:=Tryz.f211) (by kernel_rfl) (by kernel_rfl) (F:=F_r11_All) rfl
noncomputable def F_r12_after (d:Pden [.val Y29,.val (.int .u64)]):Option (Rden [⟨(.int .u64),[none],none⟩] × Oden [.val Y29,.val (.int .u64)]):=FT [E_r06_Has.ent,E_r02_Load.ent,E_r03_Target.ent] [] 28 Tryz.f212 [.p,.p] [.val Y29,.val (.int .u64)] [⟨(.int .u64),[none],none⟩] d
noncomputable def E_r12_after:Entry:=⟨212,[.p,.p],[.val Y29,.val (.int .u64)],[⟨(.int .u64),[none],none⟩],F_r12_after⟩
theorem S_r12_after:Snd E_r12_after:=ent_ok te_ok mix_ok (sc S_r06_Has (sc S_r02_Load (sc S_r03_Target sn))) (fn:=Tryz.f212) (by kernel_rfl) (by kernel_rfl) (F:=F_r12_after) rfl
noncomputable def F_r12_fill (d:Pden [.val Y29]):Option (Rden [⟨Y29,[none,none,none,none,none,none,none,none,none,none,none,none,none,none,none,none],none⟩] × Oden [.val Y29]):=FT [E_r04_Of.ent,E_r10_Promoted.ent,E_r06_Has.ent,E_r10_Get.ent,E_r03_Encode.ent,E_r02_Write.ent] [⟨0,[],⟨[3],[.val (.int .i64)],[],[1],[.box 237 [.val (.int .i64),.val (.int .i64),.val Y4,.val Y7,.val (.int .i64),.val (.int .i64),.val Y4,.val Y0,.val Y4,.val (.int .i64),.val (.int .i64),.val (.int .i64),.val (.int .i64),.val (.int .i64),.val (.int .i64),.val (.int .i64)]]⟩,[(.exit 0,⟨[],[],[],[1],[.box 237 [.val (.int .i64),.val (.int .i64),.val Y4,.val Y7,.val (.int .i64),.val (.int .i64),.val Y4,.val Y0,.val Y4,.val (.int .i64),.val (.int .i64),.val (.int .i64),.val (.int .i64),.val (.int .i64),.val (.int .i64),.val (.int .i64)]]⟩)]⟩] 84 Tryz.f214 [.p] [.val Y29] [⟨Y29,[none,none,none,none,none,none,none,none,none,none,none,none,none,none,none,none],none⟩] d
noncomputable def E_r12_fill:Entry:=⟨214,[.p],[.val Y29],[⟨Y29,[none,none,none,none,none,none,none,none,none,none,none,none,none,none,none,none],none⟩],F_r12_fill⟩
theorem S_r12_fill:Snd E_r12_fill:=ent_ok te_ok mix_ok (sc S_r04_Of (sc S_r10_Promoted (sc S_r06_Has (sc S_r10_Get (sc S_r03_Encode (sc S_r02_Write sn)))))) (fn:=Tryz.f214) (by kernel_rfl) (by kernel_rfl) (F:=F_r12_fill) rfl
noncomputable def F_r12_free (d:Pden [.val Y29]):Option (Rden [⟨Y29,[none,none,some 37,some 63,none,none,none,none,none,none,none,none,none,none,none,none],none⟩] × Oden [.val Y29]):=FT [] [⟨2,[],⟨[5],[.val (.int .i64)],[],[1217],[.arr 37 (.int .u64)]⟩,[(.exit 2,⟨[],[],[],[1217],[.arr 37 (.int .u64)]⟩)]⟩,⟨0,[.b 385,.b 897],⟨[3],[.val (.int .i64)],[.arr 37 (.int .u64),.arr 63 Y6],[1],[.box 237 [.val (.int .i64),.val (.int .i64),.own 0,.own 1,.val (.int .i64),.val (.int .i64),.val Y4,.val Y0,.val Y4,.val (.int .i64),.val (.int .i64),.val (.int .i64),.val (.int .i64),.val (.int .i64),.val (.int .i64),.val (.int .i64)]]⟩,[(.exit 0,⟨[],[],[.arr 37 (.int .u64),.arr 63 Y6],[1],[.box 237 [.val (.int .i64),.val (.int .i64),.own 0,.own 1,.val (.int .i64),.val (.int .i64),.val Y4,.val Y0,.val Y4,.val (.int .i64),.val (.int .i64),.val (.int .i64),.val (.int .i64),.val (.int .i64),.val (.int .i64),.val (.int .i64)]]⟩)]⟩] 78 Tryz.f213 [.p] [.val Y29] [⟨Y29,[none,none,some 37,some 63,none,none,none,none,none,none,none,none,none,none,none,none],none⟩] d
noncomputable def E_r12_free:Entry:=⟨213,[.p],[.val Y29],[⟨Y29,[none,none,some 37,some 63,none,none,none,none,none,none,none,none,none,none,none,none],none⟩],F_r12_free⟩
theorem S_r12_free:Snd E_r12_free:=ent_ok te_ok mix_ok sn (fn:=Tryz.f213) (by kernel_rfl) (by kernel_rfl) (F:=F_r12_free) rfl
noncomputable def F_r12_Collect (d:Pden [.val Y10,.val Y4,.val Y4]):Option (Rden [⟨Y10,[none,none,some 37,some 63,none,none],none⟩,⟨Y4,[none],none⟩,⟨Y4,[some 37],none⟩,⟨Y23,[none,none,none,none,none,none],none⟩,⟨(.int .i64),[none],none⟩] × Oden [.val Y10,.val Y4,.val Y4]):=FT [E_r04_Proper.ent,E_r09_Refers.ent,E_r10_Begin.ent,E_r11_Roots.ent,E_r11_All.ent,E_r12_after.ent,E_r12_fill.ent,E_r12_free.ent] [⟨0,[],⟨[15,16],[.own 0,.val (.int .i64)],[.arr 37 (.int .u64)],[2435],[.box 237 [.val (.int .i64),.val (.int .i64),.val Y4,.val Y7,.val (.int .i64),.val (.int .i64),.val Y4,.val Y0,.val Y4,.val (.int .i64),.val (.int .i64),.val (.int .i64),.val (.int .i64),.val (.int .i64),.val (.int .i64),.val (.int .i64)]]⟩,[(.exit 0,⟨[15],[.own 0],[.arr 37 (.int .u64)],[2435],[.box 237 [.val (.int .i64),.val (.int .i64),.val Y4,.val Y7,.val (.int .i64),.val (.int .i64),.val Y4,.val Y0,.val Y4,.val (.int .i64),.val (.int .i64),.val (.int .i64),.val (.int .i64),.val (.int .i64),.val (.int .i64),.val (.int .i64)]]⟩)]⟩] 122 Tryz.f179 [.p,.p,.p] [.val Y10,.val Y4,.val Y4] [⟨Y10,[none,none,some 37,some 63,none,none],none⟩,⟨Y4,[none],none⟩,⟨Y4,[some 37],none⟩,⟨Y23,[none,none,none,none,none,none],none⟩,⟨(.int .i64),[none],none⟩] d
noncomputable def E_r12_Collect:Entry:=⟨179,[.p,.p,.p],[.val Y10,.val Y4,.val Y4],[⟨Y10,[none,none,some 37,some 63,none,none],none⟩,⟨Y4,[none],none⟩,⟨Y4,[some 37],none⟩,⟨Y23,[none,none,none,none,none,none],none⟩,⟨(.int .i64),[none],none⟩],F_r12_Collect⟩
theorem S_r12_Collect:Snd E_r12_Collect:=ent_ok te_ok mix_ok (sc S_r04_Proper (sc S_r09_Refers (sc S_r10_Begin (sc S_r11_Roots (sc S_r11_All (sc S_r12_after (sc S_r12_fill (sc S_r12_free sn)))))))) (fn:=Tryz.f179) (by kernel_rfl) (by kernel_rfl) (F:=F_r12_Collect) rfl
noncomputable def F_made_World_Collect (d:Pden [.val Y13]):Option (Rden [⟨Y13,[none,none,none,none,none,none,none,none],none⟩] × Oden [.val Y13]):=FT [E_r12_Collect.ent] [] 28 Tryz.f139 [.p] [.val Y13] [⟨Y13,[none,none,none,none,none,none,none,none],none⟩] d
noncomputable def E_made_World_Collect:Entry:=⟨139,[.p],[.val Y13],[⟨Y13,[none,none,none,none,none,none,none,none],none⟩],F_made_World_Collect⟩
theorem S_made_World_Collect:Snd E_made_World_Collect:=ent_ok te_ok mix_ok (sc S_r12_Collect sn) (fn:=Tryz.f139) (by kernel_rfl) (by kernel_rfl) (F:=F_made_World_Collect) rfl
noncomputable def F_made_World_Step (d:Pden [.val Y13,.ptr 68 Y2]):Option (Rden [⟨Y13,[none,none,none,none,none,none,none,none],none⟩] × Oden [.val Y13,.ptr 68 Y2]):=FT [E_made_Tape_Next.ent,E_made_Tape_Header.ent,E_made_World_Put.ent,E_made_World_Link.ent,E_made_World_Pin.ent,E_made_World_Drop.ent,E_made_World_Collect.ent,E_made_World_pick.ent] [] 52 Tryz.f86 [.p,.p] [.val Y13,.ptr 68 Y2] [⟨Y13,[none,none,none,none,none,none,none,none],none⟩] d
noncomputable def E_made_World_Step:Entry:=⟨86,[.p,.p],[.val Y13,.ptr 68 Y2],[⟨Y13,[none,none,none,none,none,none,none,none],none⟩],F_made_World_Step⟩
theorem S_made_World_Step:Snd E_made_World_Step:=ent_ok te_ok mix_ok (sc S_made_Tape_Next (sc S_made_Tape_Header (sc S_made_World_Put (sc S_made_World_Link (sc S_made_World_Pin (sc S_made_World_Drop (sc S_made_World_Collect (sc S_made_World_pick sn)))))))) (fn:=Tryz.f86) (by kernel_rfl) (by kernel_rfl) (F:=F_made_World_Step) rfl
noncomputable def F_made_Make (d:Pden [.val Y0]):Option (Rden [⟨Y13,[none,none,none,none,none,none,none,none],none⟩] × Oden [.val Y0]):=FT [E_made_Tape_Empty.ent,E_made_Tape_Done.ent,E_made_World_Step.ent] [⟨0,[.b 769,.b 770],⟨[14],[.val Y13],[],[577,833],[.box 68 [.val Y0,.val (.int .i64)],.box 54 [.val (.int .i64),.val (.int .i64),.val Y4,.val Y7,.val (.int .i64),.val (.int .i64),.val Y4,.val Y4]]⟩,[(.exit 0,⟨[14],[.val Y13],[],[577,833],[.box 68 [.val Y0,.val (.int .i64)],.box 54 [.val (.int .i64),.val (.int .i64),.val Y4,.val Y7,.val (.int .i64),.val (.int .i64),.val Y4,.val Y4]]⟩)]⟩] 22 Tryz.f31 [.p] [.val Y0] [⟨Y13,[none,none,none,none,none,none,none,none],none⟩] d
noncomputable def E_made_Make:Entry:=⟨31,[.p],[.val Y0],[⟨Y13,[none,none,none,none,none,none,none,none],none⟩],F_made_Make⟩
theorem S_made_Make:Snd E_made_Make:=ent_ok te_ok mix_ok (sc S_made_Tape_Empty (sc S_made_Tape_Done (sc S_made_World_Step sn))) (fn:=Tryz.f31) (by kernel_rfl) (by kernel_rfl) (F:=F_made_Make) rfl
noncomputable def F_l07_words (d:Pden [.val (.int .i64)]):Option (Rden [⟨Y16,[none,none,none],none⟩] × Oden [.val (.int .i64)]):=FT [] [] 5 Tryz.f36 [.p] [.val (.int .i64)] [⟨Y16,[none,none,none],none⟩] d
noncomputable def E_l07_words:Entry:=⟨36,[.p],[.val (.int .i64)],[⟨Y16,[none,none,none],none⟩],F_l07_words⟩
theorem S_l07_words:Snd E_l07_words:=ent_ok te_ok mix_ok sn (fn:=Tryz.f36) (by kernel_rfl) (by kernel_rfl) (F:=F_l07_words) rfl
noncomputable def F_page_within (d:Pden [.val (.int .i64),.val (.int .i64),.val (.int .i64)]):Option (Rden [⟨.bool,[none],none⟩] × Oden [.val (.int .i64),.val (.int .i64),.val (.int .i64)]):=FT [] [] 15 Tryz.f165 [.p,.p,.p] [.val (.int .i64),.val (.int .i64),.val (.int .i64)] [⟨.bool,[none],none⟩] d
noncomputable def E_page_within:Entry:=⟨165,[.p,.p,.p],[.val (.int .i64),.val (.int .i64),.val (.int .i64)],[⟨.bool,[none],none⟩],F_page_within⟩
theorem S_page_within:Snd E_page_within:=ent_ok te_ok mix_ok sn (fn:=Tryz.f165) (by kernel_rfl) (by kernel_rfl) (F:=F_page_within) rfl
noncomputable def F_page_ValidConf (d:Pden [.val Y3]):Option (Rden [⟨.bool,[none],none⟩] × Oden [.val Y3]):=FT [E_page_within.ent] [] 17 Tryz.f118 [.p] [.val Y3] [⟨.bool,[none],none⟩] d
noncomputable def E_page_ValidConf:Entry:=⟨118,[.p],[.val Y3],[⟨.bool,[none],none⟩],F_page_ValidConf⟩
theorem S_page_ValidConf:Snd E_page_ValidConf:=ent_ok te_ok mix_ok (sc S_page_within sn) (fn:=Tryz.f118) (by kernel_rfl) (by kernel_rfl) (F:=F_page_ValidConf) rfl
noncomputable def F_page_size (d:Pden [.val Y3]):Option (Rden [⟨(.int .i64),[none],none⟩] × Oden [.val Y3]):=FT [] [] 8 Tryz.f119 [.p] [.val Y3] [⟨(.int .i64),[none],none⟩] d
noncomputable def E_page_size:Entry:=⟨119,[.p],[.val Y3],[⟨(.int .i64),[none],none⟩],F_page_size⟩
theorem S_page_size:Snd E_page_size:=ent_ok te_ok mix_ok sn (fn:=Tryz.f119) (by kernel_rfl) (by kernel_rfl) (F:=F_page_size) rfl
noncomputable def F_page_isSpace (d:Pden [.val (.int .i64)]):Option (Rden [⟨.bool,[none],none⟩] × Oden [.val (.int .i64)]):=FT [] [] 9 Tryz.f120 [.p] [.val (.int .i64)] [⟨.bool,[none],none⟩] d
noncomputable def E_page_isSpace:Entry:=⟨120,[.p],[.val (.int .i64)],[⟨.bool,[none],none⟩],F_page_isSpace⟩
theorem S_page_isSpace:Snd E_page_isSpace:=ent_ok te_ok mix_ok sn (fn:=Tryz.f120) (by kernel_rfl) (by kernel_rfl) (F:=F_page_isSpace) rfl
noncomputable def F_page_isSmall (d:Pden [.val Y7,.val (.int .i64)]):Option (Rden [⟨.bool,[none],none⟩] × Oden [.val Y7,.val (.int .i64)]):=FT [E_page_within.ent] [] 18 Tryz.f121 [.p,.p] [.val Y7,.val (.int .i64)] [⟨.bool,[none],none⟩] d
noncomputable def E_page_isSmall:Entry:=⟨121,[.p,.p],[.val Y7,.val (.int .i64)],[⟨.bool,[none],none⟩],F_page_isSmall⟩
theorem S_page_isSmall:Snd E_page_isSmall:=ent_ok te_ok mix_ok (sc S_page_within sn) (fn:=Tryz.f121) (by kernel_rfl) (by kernel_rfl) (F:=F_page_isSmall) rfl
noncomputable def F_page_table_free (d:Pden [.val Y32,.val (.int .i64)]):Option (Rden [⟨.bool,[none],none⟩] × Oden [.val Y32,.val (.int .i64)]):=FT [] [] 12 Tryz.f166 [.p,.p] [.val Y32,.val (.int .i64)] [⟨.bool,[none],none⟩] d
noncomputable def E_page_table_free:Entry:=⟨166,[.p,.p],[.val Y32,.val (.int .i64)],[⟨.bool,[none],none⟩],F_page_table_free⟩
theorem S_page_table_free:Snd E_page_table_free:=ent_ok te_ok mix_ok sn (fn:=Tryz.f166) (by kernel_rfl) (by kernel_rfl) (F:=F_page_table_free) rfl
noncomputable def F_page_isPins (d:Pden [.val (.int .i64)]):Option (Rden [⟨.bool,[none],none⟩] × Oden [.val (.int .i64)]):=FT [E_page_within.ent] [] 5 Tryz.f200 [.p] [.val (.int .i64)] [⟨.bool,[none],none⟩] d
noncomputable def E_page_isPins:Entry:=⟨200,[.p],[.val (.int .i64)],[⟨.bool,[none],none⟩],F_page_isPins⟩
theorem S_page_isPins:Snd E_page_isPins:=ent_ok te_ok mix_ok (sc S_page_within sn) (fn:=Tryz.f200) (by kernel_rfl) (by kernel_rfl) (F:=F_page_isPins) rfl
noncomputable def F_page_table_small (d:Pden [.val Y32,.val (.int .i64)]):Option (Rden [⟨.bool,[none],none⟩] × Oden [.val Y32,.val (.int .i64)]):=FT [E_page_isSpace.ent,E_page_within.ent,E_page_isPins.ent] [] 27 Tryz.f167 [.p,.p] [.val Y32,.val (.int .i64)] [⟨.bool,[none],none⟩] d
noncomputable def E_page_table_small:Entry:=⟨167,[.p,.p],[.val Y32,.val (.int .i64)],[⟨.bool,[none],none⟩],F_page_table_small⟩
theorem S_page_table_small:Snd E_page_table_small:=ent_ok te_ok mix_ok (sc S_page_isSpace (sc S_page_within (sc S_page_isPins sn))) (fn:=Tryz.f167) (by kernel_rfl) (by kernel_rfl) (F:=F_page_table_small) rfl
noncomputable def F_page_SmallWords (d:Pden [.val Y3]):Option (Rden [⟨(.int .i64),[none],none⟩] × Oden [.val Y3]):=FT [E_page_ValidConf.ent] [] 9 Tryz.f180 [.p] [.val Y3] [⟨(.int .i64),[none],none⟩] d
noncomputable def E_page_SmallWords:Entry:=⟨180,[.p],[.val Y3],[⟨(.int .i64),[none],none⟩],F_page_SmallWords⟩
theorem S_page_SmallWords:Snd E_page_SmallWords:=ent_ok te_ok mix_ok (sc S_page_ValidConf sn) (fn:=Tryz.f180) (by kernel_rfl) (by kernel_rfl) (F:=F_page_SmallWords) rfl
noncomputable def F_page_Need (d:Pden [.val Y3,.val (.int .i64)]):Option (Rden [⟨(.int .i64),[none],none⟩] × Oden [.val Y3,.val (.int .i64)]):=FT [E_page_ValidConf.ent,E_page_within.ent,E_page_SmallWords.ent] [] 28 Tryz.f142 [.p,.p] [.val Y3,.val (.int .i64)] [⟨(.int .i64),[none],none⟩] d
noncomputable def E_page_Need:Entry:=⟨142,[.p,.p],[.val Y3,.val (.int .i64)],[⟨(.int .i64),[none],none⟩],F_page_Need⟩
theorem S_page_Need:Snd E_page_Need:=ent_ok te_ok mix_ok (sc S_page_ValidConf (sc S_page_within (sc S_page_SmallWords sn))) (fn:=Tryz.f142) (by kernel_rfl) (by kernel_rfl) (F:=F_page_Need) rfl
noncomputable def F_page_table_large (d:Pden [.val Y32,.val (.int .i64)]):Option (Rden [⟨.bool,[none],none⟩] × Oden [.val Y32,.val (.int .i64)]):=FT [E_page_Need.ent,E_page_isSpace.ent,E_page_isPins.ent] [⟨0,[],⟨[4,51],[.val .bool,.val (.int .i64)],[],[],[]⟩,[(.ret,⟨[4],[.val .bool],[],[],[]⟩),(.exit 0,⟨[4],[.val .bool],[],[],[]⟩)]⟩] 66 Tryz.f168 [.p,.p] [.val Y32,.val (.int .i64)] [⟨.bool,[none],none⟩] d
noncomputable def E_page_table_large:Entry:=⟨168,[.p,.p],[.val Y32,.val (.int .i64)],[⟨.bool,[none],none⟩],F_page_table_large⟩
theorem S_page_table_large:Snd E_page_table_large:=ent_ok te_ok mix_ok (sc S_page_Need (sc S_page_isSpace (sc S_page_isPins sn))) (fn:=Tryz.f168) (by kernel_rfl) (by kernel_rfl) (F:=F_page_table_large) rfl
noncomputable def F_page_table_owned (d:Pden [.val Y32,.val (.int .i64)]):Option (Rden [⟨.bool,[none],none⟩] × Oden [.val Y32,.val (.int .i64)]):=FT [E_page_Need.ent] [⟨0,[],⟨[4,5],[.val .bool,.val (.int .i64)],[],[],[]⟩,[(.ret,⟨[4],[.val .bool],[],[],[]⟩),(.exit 0,⟨[4],[.val .bool],[],[],[]⟩)]⟩] 29 Tryz.f201 [.p,.p] [.val Y32,.val (.int .i64)] [⟨.bool,[none],none⟩] d
noncomputable def E_page_table_owned:Entry:=⟨201,[.p,.p],[.val Y32,.val (.int .i64)],[⟨.bool,[none],none⟩],F_page_table_owned⟩
theorem S_page_table_owned:Snd E_page_table_owned:=ent_ok te_ok mix_ok (sc S_page_Need sn) (fn:=Tryz.f201) (by kernel_rfl) (by kernel_rfl) (F:=F_page_table_owned) rfl
noncomputable def F_page_table_tail (d:Pden [.val Y32,.val (.int .i64)]):Option (Rden [⟨.bool,[none],none⟩] × Oden [.val Y32,.val (.int .i64)]):=FT [E_page_table_owned.ent] [] 24 Tryz.f169 [.p,.p] [.val Y32,.val (.int .i64)] [⟨.bool,[none],none⟩] d
noncomputable def E_page_table_tail:Entry:=⟨169,[.p,.p],[.val Y32,.val (.int .i64)],[⟨.bool,[none],none⟩],F_page_table_tail⟩
theorem S_page_table_tail:Snd E_page_table_tail:=ent_ok te_ok mix_ok (sc S_page_table_owned sn) (fn:=Tryz.f169) (by kernel_rfl) (by kernel_rfl) (F:=F_page_table_tail) rfl
noncomputable def F_page_table_proper (d:Pden [.val Y32]):Option (Rden [⟨.bool,[none],none⟩] × Oden [.val Y32]):=FT [E_page_within.ent,E_page_table_free.ent,E_page_table_small.ent,E_page_table_large.ent,E_page_table_tail.ent] [⟨0,[],⟨[2,10],[.val .bool,.val (.int .i64)],[],[],[]⟩,[(.ret,⟨[2],[.val .bool],[],[],[]⟩),(.exit 0,⟨[2],[.val .bool],[],[],[]⟩)]⟩] 30 Tryz.f122 [.p] [.val Y32] [⟨.bool,[none],none⟩] d
noncomputable def E_page_table_proper:Entry:=⟨122,[.p],[.val Y32],[⟨.bool,[none],none⟩],F_page_table_proper⟩
theorem S_page_table_proper:Snd E_page_table_proper:=ent_ok te_ok mix_ok (sc S_page_within (sc S_page_table_free (sc S_page_table_small (sc S_page_table_large (sc S_page_table_tail sn))))) (fn:=Tryz.f122) (by kernel_rfl) (by kernel_rfl) (F:=F_page_table_proper) rfl
noncomputable def F_page_Proper (d:Pden [.val Y10]):Option (Rden [⟨.bool,[none],none⟩] × Oden [.val Y10]):=FT [E_page_ValidConf.ent,E_page_size.ent,E_page_isSpace.ent,E_page_isSmall.ent,E_page_table_proper.ent] [] 48 Tryz.f68 [.p] [.val Y10] [⟨.bool,[none],none⟩] d
noncomputable def E_page_Proper:Entry:=⟨68,[.p],[.val Y10],[⟨.bool,[none],none⟩],F_page_Proper⟩
theorem S_page_Proper:Snd E_page_Proper:=ent_ok te_ok mix_ok (sc S_page_ValidConf (sc S_page_size (sc S_page_isSpace (sc S_page_isSmall (sc S_page_table_proper sn))))) (fn:=Tryz.f68) (by kernel_rfl) (by kernel_rfl) (F:=F_page_Proper) rfl
noncomputable def F_bits_Ones (d:Pden [.val (.int .i64)]):Option (Rden [⟨(.int .u64),[none],none⟩] × Oden [.val (.int .i64)]):=FT [] [] 8 Tryz.f174 [.p] [.val (.int .i64)] [⟨(.int .u64),[none],none⟩] d
noncomputable def E_bits_Ones:Entry:=⟨174,[.p],[.val (.int .i64)],[⟨(.int .u64),[none],none⟩],F_bits_Ones⟩
theorem S_bits_Ones:Snd E_bits_Ones:=ent_ok te_ok mix_ok sn (fn:=Tryz.f174) (by kernel_rfl) (by kernel_rfl) (F:=F_bits_Ones) rfl
noncomputable def F_header_Valid (d:Pden [.val Y16]):Option (Rden [⟨.bool,[none],none⟩] × Oden [.val Y16]):=FT [E_bits_Ones.ent] [] 45 Tryz.f130 [.p] [.val Y16] [⟨.bool,[none],none⟩] d
noncomputable def E_header_Valid:Entry:=⟨130,[.p],[.val Y16],[⟨.bool,[none],none⟩],F_header_Valid⟩
theorem S_header_Valid:Snd E_header_Valid:=ent_ok te_ok mix_ok (sc S_bits_Ones sn) (fn:=Tryz.f130) (by kernel_rfl) (by kernel_rfl) (F:=F_header_Valid) rfl
noncomputable def F_header_Size (d:Pden [.val Y16]):Option (Rden [⟨(.int .i64),[none],none⟩] × Oden [.val Y16]):=FT [E_header_Valid.ent] [] 9 Tryz.f78 [.p] [.val Y16] [⟨(.int .i64),[none],none⟩] d
noncomputable def E_header_Size:Entry:=⟨78,[.p],[.val Y16],[⟨(.int .i64),[none],none⟩],F_header_Size⟩
theorem S_header_Size:Snd E_header_Size:=ent_ok te_ok mix_ok (sc S_header_Valid sn) (fn:=Tryz.f78) (by kernel_rfl) (by kernel_rfl) (F:=F_header_Size) rfl
noncomputable def F_alloc_Asks (d:Pden [.val Y3,.val Y16]):Option (Rden [⟨.bool,[none],none⟩] × Oden [.val Y3,.val Y16]):=FT [E_header_Size.ent,E_page_Need.ent] [] 15 Tryz.f91 [.p,.p] [.val Y3,.val Y16] [⟨.bool,[none],none⟩] d
noncomputable def E_alloc_Asks:Entry:=⟨91,[.p,.p],[.val Y3,.val Y16],[⟨.bool,[none],none⟩],F_alloc_Asks⟩
theorem S_alloc_Asks:Snd E_alloc_Asks:=ent_ok te_ok mix_ok (sc S_header_Size (sc S_page_Need sn)) (fn:=Tryz.f91) (by kernel_rfl) (by kernel_rfl) (F:=F_alloc_Asks) rfl
noncomputable def F_page_InUse (d:Pden [.val Y7]):Option (Rden [⟨(.int .i64),[none],none⟩] × Oden [.val Y7]):=FT [] [⟨0,[],⟨[3,8],[.val (.int .i64),.val (.int .i64)],[],[],[]⟩,[(.exit 0,⟨[3],[.val (.int .i64)],[],[],[]⟩)]⟩] 19 Tryz.f79 [.p] [.val Y7] [⟨(.int .i64),[none],none⟩] d
noncomputable def E_page_InUse:Entry:=⟨79,[.p],[.val Y7],[⟨(.int .i64),[none],none⟩],F_page_InUse⟩
theorem S_page_InUse:Snd E_page_InUse:=ent_ok te_ok mix_ok sn (fn:=Tryz.f79) (by kernel_rfl) (by kernel_rfl) (F:=F_page_InUse) rfl
noncomputable def F_page_Limit (d:Pden [.val Y3]):Option (Rden [⟨(.int .i64),[none],none⟩] × Oden [.val Y3]):=FT [E_page_ValidConf.ent] [] 9 Tryz.f181 [.p] [.val Y3] [⟨(.int .i64),[none],none⟩] d
noncomputable def E_page_Limit:Entry:=⟨181,[.p],[.val Y3],[⟨(.int .i64),[none],none⟩],F_page_Limit⟩
theorem S_page_Limit:Snd E_page_Limit:=ent_ok te_ok mix_ok (sc S_page_ValidConf sn) (fn:=Tryz.f181) (by kernel_rfl) (by kernel_rfl) (F:=F_page_Limit) rfl
noncomputable def F_page_freeFrom (d:Pden [.val Y7,.val (.int .i64)]):Option (Rden [⟨(.int .i64),[none],none⟩] × Oden [.val Y7,.val (.int .i64)]):=FT [] [⟨0,[],⟨[5],[.val (.int .i64)],[],[],[]⟩,[(.exit 0,⟨[5],[.val (.int .i64)],[],[],[]⟩)]⟩] 25 Tryz.f227 [.p,.p] [.val Y7,.val (.int .i64)] [⟨(.int .i64),[none],none⟩] d
noncomputable def E_page_freeFrom:Entry:=⟨227,[.p,.p],[.val Y7,.val (.int .i64)],[⟨(.int .i64),[none],none⟩],F_page_freeFrom⟩
theorem S_page_freeFrom:Snd E_page_freeFrom:=ent_ok te_ok mix_ok sn (fn:=Tryz.f227) (by kernel_rfl) (by kernel_rfl) (F:=F_page_freeFrom) rfl
noncomputable def F_page_Runs (d:Pden [.val Y7]):Option (Rden [⟨Y17,[some 220],none⟩] × Oden [.val Y7]):=FT [E_page_freeFrom.ent] [⟨0,[],⟨[3,4],[.own 0,.val (.int .i64)],[.arr 220 Y3],[],[]⟩,[(.exit 0,⟨[3],[.own 0],[.arr 220 Y3],[],[]⟩)]⟩] 27 Tryz.f215 [.p] [.val Y7] [⟨Y17,[some 220],none⟩] d
noncomputable def E_page_Runs:Entry:=⟨215,[.p],[.val Y7],[⟨Y17,[some 220],none⟩],F_page_Runs⟩
theorem S_page_Runs:Snd E_page_Runs:=ent_ok te_ok mix_ok (sc S_page_freeFrom sn) (fn:=Tryz.f215) (by kernel_rfl) (by kernel_rfl) (F:=F_page_Runs) rfl
noncomputable def F_page_First (d:Pden [.val Y7,.val (.int .i64)]):Option (Rden [⟨(.int .i64),[none],none⟩] × Oden [.val Y7,.val (.int .i64)]):=FT [E_page_Runs.ent] [⟨0,[],⟨[4,12],[.val (.int .i64),.val (.int .i64)],[],[],[]⟩,[(.ret,⟨[4],[.val (.int .i64)],[],[],[]⟩),(.exit 0,⟨[4],[.val (.int .i64)],[],[],[]⟩)]⟩] 23 Tryz.f182 [.p,.p] [.val Y7,.val (.int .i64)] [⟨(.int .i64),[none],none⟩] d
noncomputable def E_page_First:Entry:=⟨182,[.p,.p],[.val Y7,.val (.int .i64)],[⟨(.int .i64),[none],none⟩],F_page_First⟩
theorem S_page_First:Snd E_page_First:=ent_ok te_ok mix_ok (sc S_page_Runs sn) (fn:=Tryz.f182) (by kernel_rfl) (by kernel_rfl) (F:=F_page_First) rfl
noncomputable def F_slices_Clone_api_Page:=cloneF Y6 63 32
noncomputable def E_slices_Clone_api_Page:Entry:=⟨177,[.p],[.val Y7],[⟨Y7,[some 63],none⟩],F_slices_Clone_api_Page⟩
theorem S_slices_Clone_api_Page:Snd E_slices_Clone_api_Page:=clone_ok te_ok mix_ok (fn:=Tryz.f177) (c:=(bodyOf Tryz.f177)) (o1:=((regOps (seqL (seqL (seqR (bodyOf Tryz.f177))))).getD 0 default)) (o2:=((regOps (seqL (seqL (seqR (bodyOf Tryz.f177))))).getD 1 default)) (t:=25) (t':=25) (u:=63) (s:=3) (q:=4) (by kernel_rfl) (by kernel_rfl) (by kernel_rfl) (Nat.le_of_ble_eq_true (by kernel_rfl)) (by kernel_rfl) (by kernel_rfl) (by kernel_rfl) (Nat.le_of_ble_eq_true (by kernel_rfl)) (by kernel_rfl) (fun d=>by kernel_rfl)
noncomputable def F_page_take (d:Pden [.val Y7,.val (.int .i64),.val (.int .i64),.val Y6]):Option (Rden [⟨Y7,[some 63],none⟩,⟨(.int .i64),[none],none⟩] × Oden [.val Y7,.val (.int .i64),.val (.int .i64),.val Y6]):=FT [E_page_within.ent,E_page_InUse.ent,E_slices_Clone_api_Page.ent] [⟨0,[],⟨[11],[.val (.int .i64)],[],[1476],[.arr 63 Y6]⟩,[(.exit 0,⟨[],[],[],[1476],[.arr 63 Y6]⟩)]⟩] 49 Tryz.f216 [.p,.p,.p,.p] [.val Y7,.val (.int .i64),.val (.int .i64),.val Y6] [⟨Y7,[some 63],none⟩,⟨(.int .i64),[none],none⟩] d
noncomputable def E_page_take:Entry:=⟨216,[.p,.p,.p,.p],[.val Y7,.val (.int .i64),.val (.int .i64),.val Y6],[⟨Y7,[some 63],none⟩,⟨(.int .i64),[none],none⟩],F_page_take⟩
theorem S_page_take:Snd E_page_take:=ent_ok te_ok mix_ok (sc S_page_within (sc S_page_InUse (sc S_slices_Clone_api_Page sn))) (fn:=Tryz.f216) (by kernel_rfl) (by kernel_rfl) (F:=F_page_take) rfl
noncomputable def F_page_Large (d:Pden [.val Y3,.val Y7,.val (.int .i64),.val (.int .i64),.val (.int .i64)]):Option (Rden [⟨Y7,[some 63],none⟩,⟨(.int .i64),[none],none⟩] × Oden [.val Y3,.val Y7,.val (.int .i64),.val (.int .i64),.val (.int .i64)]):=FT [E_page_Need.ent,E_page_isSpace.ent,E_page_take.ent] [] 32 Tryz.f183 [.p,.p,.p,.p,.p] [.val Y3,.val Y7,.val (.int .i64),.val (.int .i64),.val (.int .i64)] [⟨Y7,[some 63],none⟩,⟨(.int .i64),[none],none⟩] d
noncomputable def E_page_Large:Entry:=⟨183,[.p,.p,.p,.p,.p],[.val Y3,.val Y7,.val (.int .i64),.val (.int .i64),.val (.int .i64)],[⟨Y7,[some 63],none⟩,⟨(.int .i64),[none],none⟩],F_page_Large⟩
theorem S_page_Large:Snd E_page_Large:=ent_ok te_ok mix_ok (sc S_page_Need (sc S_page_isSpace (sc S_page_take sn))) (fn:=Tryz.f183) (by kernel_rfl) (by kernel_rfl) (F:=F_page_Large) rfl
noncomputable def F_page_Address (d:Pden [.val Y3,.val (.int .i64),.val (.int .i64)]):Option (Rden [⟨(.int .u64),[none],none⟩,⟨(.int .i64),[none],none⟩] × Oden [.val Y3,.val (.int .i64),.val (.int .i64)]):=FT [E_page_ValidConf.ent,E_page_within.ent] [] 33 Tryz.f124 [.p,.p,.p] [.val Y3,.val (.int .i64),.val (.int .i64)] [⟨(.int .u64),[none],none⟩,⟨(.int .i64),[none],none⟩] d
noncomputable def E_page_Address:Entry:=⟨124,[.p,.p,.p],[.val Y3,.val (.int .i64),.val (.int .i64)],[⟨(.int .u64),[none],none⟩,⟨(.int .i64),[none],none⟩],F_page_Address⟩
theorem S_page_Address:Snd E_page_Address:=ent_ok te_ok mix_ok (sc S_page_ValidConf (sc S_page_within sn)) (fn:=Tryz.f124) (by kernel_rfl) (by kernel_rfl) (F:=F_page_Address) rfl
noncomputable def F_alloc_spotAt (d:Pden [.val Y10,.val (.int .i64),.val (.int .i64)]):Option (Rden [⟨Y34,[none],none⟩] × Oden [.val Y10,.val (.int .i64),.val (.int .i64)]):=FT [E_page_Address.ent] [] 23 Tryz.f184 [.p,.p,.p] [.val Y10,.val (.int .i64),.val (.int .i64)] [⟨Y34,[none],none⟩] d
noncomputable def E_alloc_spotAt:Entry:=⟨184,[.p,.p,.p],[.val Y10,.val (.int .i64),.val (.int .i64)],[⟨Y34,[none],none⟩],F_alloc_spotAt⟩
theorem S_alloc_spotAt:Snd E_alloc_spotAt:=ent_ok te_ok mix_ok (sc S_page_Address sn) (fn:=Tryz.f184) (by kernel_rfl) (by kernel_rfl) (F:=F_alloc_spotAt) rfl
noncomputable def F_alloc_placeLarge (d:Pden [.val Y10,.val (.int .i64),.val (.int .i64)]):Option (Rden [⟨Y34,[none],none⟩] × Oden [.val Y10,.val (.int .i64),.val (.int .i64)]):=FT [E_page_InUse.ent,E_page_Limit.ent,E_page_First.ent,E_page_Large.ent,E_alloc_spotAt.ent] [] 42 Tryz.f143 [.p,.p,.p] [.val Y10,.val (.int .i64),.val (.int .i64)] [⟨Y34,[none],none⟩] d
noncomputable def E_alloc_placeLarge:Entry:=⟨143,[.p,.p,.p],[.val Y10,.val (.int .i64),.val (.int .i64)],[⟨Y34,[none],none⟩],F_alloc_placeLarge⟩
theorem S_alloc_placeLarge:Snd E_alloc_placeLarge:=ent_ok te_ok mix_ok (sc S_page_InUse (sc S_page_Limit (sc S_page_First (sc S_page_Large (sc S_alloc_spotAt sn))))) (fn:=Tryz.f143) (by kernel_rfl) (by kernel_rfl) (F:=F_alloc_placeLarge) rfl
noncomputable def F_alloc_bumpFits (d:Pden [.val Y10,.val (.int .i64)]):Option (Rden [⟨.bool,[none],none⟩] × Oden [.val Y10,.val (.int .i64)]):=FT [] [] 30 Tryz.f185 [.p,.p] [.val Y10,.val (.int .i64)] [⟨.bool,[none],none⟩] d
noncomputable def E_alloc_bumpFits:Entry:=⟨185,[.p,.p],[.val Y10,.val (.int .i64)],[⟨.bool,[none],none⟩],F_alloc_bumpFits⟩
theorem S_alloc_bumpFits:Snd E_alloc_bumpFits:=ent_ok te_ok mix_ok sn (fn:=Tryz.f185) (by kernel_rfl) (by kernel_rfl) (F:=F_alloc_bumpFits) rfl
noncomputable def F_alloc_bump (d:Pden [.val Y10,.val (.int .i64)]):Option (Rden [⟨Y34,[none],none⟩] × Oden [.val Y10,.val (.int .i64)]):=FT [E_slices_Clone_api_Page.ent,E_alloc_spotAt.ent] [] 33 Tryz.f186 [.p,.p] [.val Y10,.val (.int .i64)] [⟨Y34,[none],none⟩] d
noncomputable def E_alloc_bump:Entry:=⟨186,[.p,.p],[.val Y10,.val (.int .i64)],[⟨Y34,[none],none⟩],F_alloc_bump⟩
theorem S_alloc_bump:Snd E_alloc_bump:=ent_ok te_ok mix_ok (sc S_slices_Clone_api_Page (sc S_alloc_spotAt sn)) (fn:=Tryz.f186) (by kernel_rfl) (by kernel_rfl) (F:=F_alloc_bump) rfl
noncomputable def F_page_Small (d:Pden [.val Y7,.val (.int .i64),.val (.int .i64)]):Option (Rden [⟨Y7,[some 63],none⟩,⟨(.int .i64),[none],none⟩] × Oden [.val Y7,.val (.int .i64),.val (.int .i64)]):=FT [E_page_isSpace.ent,E_page_take.ent] [] 18 Tryz.f187 [.p,.p,.p] [.val Y7,.val (.int .i64),.val (.int .i64)] [⟨Y7,[some 63],none⟩,⟨(.int .i64),[none],none⟩] d
noncomputable def E_page_Small:Entry:=⟨187,[.p,.p,.p],[.val Y7,.val (.int .i64),.val (.int .i64)],[⟨Y7,[some 63],none⟩,⟨(.int .i64),[none],none⟩],F_page_Small⟩
theorem S_page_Small:Snd E_page_Small:=ent_ok te_ok mix_ok (sc S_page_isSpace (sc S_page_take sn)) (fn:=Tryz.f187) (by kernel_rfl) (by kernel_rfl) (F:=F_page_Small) rfl
noncomputable def F_alloc_placeSmall (d:Pden [.val Y10,.val (.int .i64)]):Option (Rden [⟨Y34,[none],none⟩] × Oden [.val Y10,.val (.int .i64)]):=FT [E_page_Limit.ent,E_page_InUse.ent,E_alloc_bumpFits.ent,E_alloc_bump.ent,E_page_First.ent,E_page_Small.ent] [] 51 Tryz.f144 [.p,.p] [.val Y10,.val (.int .i64)] [⟨Y34,[none],none⟩] d
noncomputable def E_alloc_placeSmall:Entry:=⟨144,[.p,.p],[.val Y10,.val (.int .i64)],[⟨Y34,[none],none⟩],F_alloc_placeSmall⟩
theorem S_alloc_placeSmall:Snd E_alloc_placeSmall:=ent_ok te_ok mix_ok (sc S_page_Limit (sc S_page_InUse (sc S_alloc_bumpFits (sc S_alloc_bump (sc S_page_First (sc S_page_Small sn)))))) (fn:=Tryz.f144) (by kernel_rfl) (by kernel_rfl) (F:=F_alloc_placeSmall) rfl
noncomputable def F_alloc_place (d:Pden [.val Y10,.val (.int .i64)]):Option (Rden [⟨Y34,[none],none⟩] × Oden [.val Y10,.val (.int .i64)]):=FT [E_page_Need.ent,E_alloc_placeLarge.ent,E_alloc_placeSmall.ent] [] 19 Tryz.f92 [.p,.p] [.val Y10,.val (.int .i64)] [⟨Y34,[none],none⟩] d
noncomputable def E_alloc_place:Entry:=⟨92,[.p,.p],[.val Y10,.val (.int .i64)],[⟨Y34,[none],none⟩],F_alloc_place⟩
theorem S_alloc_place:Snd E_alloc_place:=ent_ok te_ok mix_ok (sc S_page_Need (sc S_alloc_placeLarge (sc S_alloc_placeSmall sn))) (fn:=Tryz.f92) (by kernel_rfl) (by kernel_rfl) (F:=F_alloc_place) rfl
noncomputable def F_bits_Pack_S1_c (d:Pden [.val (.int .i64),.ptr 209 Y35]):Option (Rden [⟨(.int .i64),[none],none⟩] × Oden [.val (.int .i64),.ptr 209 Y35]):=FT [] [] 9 Tryz.f206 [.p,.p] [.val (.int .i64),.ptr 209 Y35] [⟨(.int .i64),[none],none⟩] d
noncomputable def E_bits_Pack_S1_c:Entry:=⟨206,[.p,.p],[.val (.int .i64),.ptr 209 Y35],[⟨(.int .i64),[none],none⟩],F_bits_Pack_S1_c⟩
theorem S_bits_Pack_S1_c:Snd E_bits_Pack_S1_c:=ent_ok te_ok mix_ok sn (fn:=Tryz.f206) (by kernel_rfl) (by kernel_rfl) (F:=F_bits_Pack_S1_c) rfl
noncomputable def F_bits_fit_c_bits_Pack_S1 (d:Pden [.val (.int .i64),.ptr 209 Y35]):Option (Rden [⟨.bool,[none],none⟩] × Oden [.val (.int .i64),.ptr 209 Y35]):=FT [E_bits_Pack_S1_c.ent] [⟨0,[],⟨[4,5,8],[.val .bool,.val (.int .i64),.val (.int .i64)],[],[1],[.box 209 [.val Y35]]⟩,[(.ret,⟨[4],[.val .bool],[],[1],[.box 209 [.val Y35]]⟩),(.exit 0,⟨[4],[.val .bool],[],[1],[.box 209 [.val Y35]]⟩)]⟩] 28 Tryz.f205 [.p,.clo 206 0 1] [.val (.int .i64),.ptr 209 Y35] [⟨.bool,[none],none⟩] d
noncomputable def E_bits_fit_c_bits_Pack_S1:Entry:=⟨205,[.p,.clo 206 0 1],[.val (.int .i64),.ptr 209 Y35],[⟨.bool,[none],none⟩],F_bits_fit_c_bits_Pack_S1⟩
theorem S_bits_fit_c_bits_Pack_S1:Snd E_bits_fit_c_bits_Pack_S1:=ent_ok te_ok mix_ok (sc S_bits_Pack_S1_c sn) (fn:=Tryz.f205) (by kernel_rfl) (by kernel_rfl) (F:=F_bits_fit_c_bits_Pack_S1) rfl
noncomputable def F_bits_Pack (d:Pden [.val Y35]):Option (Rden [⟨(.int .u64),[none],none⟩,⟨(.int .i64),[none],none⟩] × Oden [.val Y35]):=FT [E_bits_fit_c_bits_Pack_S1.ent,E_bits_Ones.ent] [⟨0,[],⟨[2,3,4,14],[.val (.int .u64),.val (.int .i64),.val (.int .u64),.val (.int .i64)],[],[],[]⟩,[(.ret,⟨[2,3],[.val (.int .u64),.val (.int .i64)],[],[],[]⟩),(.exit 0,⟨[2,3,4],[.val (.int .u64),.val (.int .i64),.val (.int .u64)],[],[],[]⟩)]⟩] 40 Tryz.f175 [.p] [.val Y35] [⟨(.int .u64),[none],none⟩,⟨(.int .i64),[none],none⟩] d
noncomputable def E_bits_Pack:Entry:=⟨175,[.p],[.val Y35],[⟨(.int .u64),[none],none⟩,⟨(.int .i64),[none],none⟩],F_bits_Pack⟩
theorem S_bits_Pack:Snd E_bits_Pack:=ent_ok te_ok mix_ok (sc S_bits_fit_c_bits_Pack_S1 (sc S_bits_Ones sn)) (fn:=Tryz.f175) (by kernel_rfl) (by kernel_rfl) (F:=F_bits_Pack) rfl
noncomputable def F_header_Encode (d:Pden [.val Y16]):Option (Rden [⟨(.int .u64),[none],none⟩,⟨(.int .i64),[none],none⟩] × Oden [.val Y16]):=FT [E_header_Valid.ent,E_bits_Pack.ent] [] 24 Tryz.f131 [.p] [.val Y16] [⟨(.int .u64),[none],none⟩,⟨(.int .i64),[none],none⟩] d
noncomputable def E_header_Encode:Entry:=⟨131,[.p],[.val Y16],[⟨(.int .u64),[none],none⟩,⟨(.int .i64),[none],none⟩],F_header_Encode⟩
theorem S_header_Encode:Snd E_header_Encode:=ent_ok te_ok mix_ok (sc S_header_Valid (sc S_bits_Pack sn)) (fn:=Tryz.f131) (by kernel_rfl) (by kernel_rfl) (F:=F_header_Encode) rfl
noncomputable def F_arena_locate (d:Pden [.val Y4,.val (.int .u64),.val (.int .i64)]):Option (Rden [⟨(.int .i64),[none],none⟩,⟨(.int .i64),[none],none⟩] × Oden [.val Y4,.val (.int .u64),.val (.int .i64)]):=FT [] [] 32 Tryz.f207 [.p,.p,.p] [.val Y4,.val (.int .u64),.val (.int .i64)] [⟨(.int .i64),[none],none⟩,⟨(.int .i64),[none],none⟩] d
noncomputable def E_arena_locate:Entry:=⟨207,[.p,.p,.p],[.val Y4,.val (.int .u64),.val (.int .i64)],[⟨(.int .i64),[none],none⟩,⟨(.int .i64),[none],none⟩],F_arena_locate⟩
theorem S_arena_locate:Snd E_arena_locate:=ent_ok te_ok mix_ok sn (fn:=Tryz.f207) (by kernel_rfl) (by kernel_rfl) (F:=F_arena_locate) rfl
noncomputable def F_arena_duplicate (d:Pden [.val Y4]):Option (Rden [⟨Y4,[some 37],none⟩] × Oden [.val Y4]):=FT [] [] 11 Tryz.f208 [.p] [.val Y4] [⟨Y4,[some 37],none⟩] d
noncomputable def E_arena_duplicate:Entry:=⟨208,[.p],[.val Y4],[⟨Y4,[some 37],none⟩],F_arena_duplicate⟩
theorem S_arena_duplicate:Snd E_arena_duplicate:=ent_ok te_ok mix_ok sn (fn:=Tryz.f208) (by kernel_rfl) (by kernel_rfl) (F:=F_arena_duplicate) rfl
noncomputable def F_arena_Write (d:Pden [.val Y4,.val (.int .u64),.val Y4]):Option (Rden [⟨Y4,[some 37],none⟩,⟨(.int .i64),[none],none⟩] × Oden [.val Y4,.val (.int .u64),.val Y4]):=FT [E_arena_locate.ent,E_arena_duplicate.ent] [] 30 Tryz.f176 [.p,.p,.p] [.val Y4,.val (.int .u64),.val Y4] [⟨Y4,[some 37],none⟩,⟨(.int .i64),[none],none⟩] d
noncomputable def E_arena_Write:Entry:=⟨176,[.p,.p,.p],[.val Y4,.val (.int .u64),.val Y4],[⟨Y4,[some 37],none⟩,⟨(.int .i64),[none],none⟩],F_arena_Write⟩
theorem S_arena_Write:Snd E_arena_Write:=ent_ok te_ok mix_ok (sc S_arena_locate (sc S_arena_duplicate sn)) (fn:=Tryz.f176) (by kernel_rfl) (by kernel_rfl) (F:=F_arena_Write) rfl
noncomputable def F_object_write (d:Pden [.val Y10,.val (.int .u64),.val Y4]):Option (Rden [⟨Y10,[none,none,some 37,some 63,none,none],none⟩,⟨(.int .i64),[none],none⟩] × Oden [.val Y10,.val (.int .u64),.val Y4]):=FT [E_arena_Write.ent,E_slices_Clone_api_Page.ent] [] 29 Tryz.f132 [.p,.p,.p] [.val Y10,.val (.int .u64),.val Y4] [⟨Y10,[none,none,some 37,some 63,none,none],none⟩,⟨(.int .i64),[none],none⟩] d
noncomputable def E_object_write:Entry:=⟨132,[.p,.p,.p],[.val Y10,.val (.int .u64),.val Y4],[⟨Y10,[none,none,some 37,some 63,none,none],none⟩,⟨(.int .i64),[none],none⟩],F_object_write⟩
theorem S_object_write:Snd E_object_write:=ent_ok te_ok mix_ok (sc S_arena_Write (sc S_slices_Clone_api_Page sn)) (fn:=Tryz.f132) (by kernel_rfl) (by kernel_rfl) (F:=F_object_write) rfl
noncomputable def F_object_Init (d:Pden [.val Y10,.val (.int .u64),.val Y16]):Option (Rden [⟨Y10,[none,none,some 37,some 63,none,none],none⟩,⟨(.int .i64),[none],none⟩] × Oden [.val Y10,.val (.int .u64),.val Y16]):=FT [E_page_Proper.ent,E_header_Encode.ent,E_header_Size.ent,E_object_write.ent] [] 36 Tryz.f81 [.p,.p,.p] [.val Y10,.val (.int .u64),.val Y16] [⟨Y10,[none,none,some 37,some 63,none,none],none⟩,⟨(.int .i64),[none],none⟩] d
noncomputable def E_object_Init:Entry:=⟨81,[.p,.p,.p],[.val Y10,.val (.int .u64),.val Y16],[⟨Y10,[none,none,some 37,some 63,none,none],none⟩,⟨(.int .i64),[none],none⟩],F_object_Init⟩
theorem S_object_Init:Snd E_object_Init:=ent_ok te_ok mix_ok (sc S_page_Proper (sc S_header_Encode (sc S_header_Size (sc S_object_write sn)))) (fn:=Tryz.f81) (by kernel_rfl) (by kernel_rfl) (F:=F_object_Init) rfl
noncomputable def F_alloc_New (d:Pden [.val Y10,.val Y16]):Option (Rden [⟨Y10,[none,none,some 37,some 63,none,none],none⟩,⟨(.int .u64),[none],none⟩,⟨(.int .i64),[none],none⟩] × Oden [.val Y10,.val Y16]):=FT [E_page_Proper.ent,E_alloc_Asks.ent,E_header_Size.ent,E_alloc_place.ent,E_object_Init.ent] [] 49 Tryz.f38 [.p,.p] [.val Y10,.val Y16] [⟨Y10,[none,none,some 37,some 63,none,none],none⟩,⟨(.int .u64),[none],none⟩,⟨(.int .i64),[none],none⟩] d
noncomputable def E_alloc_New:Entry:=⟨38,[.p,.p],[.val Y10,.val Y16],[⟨Y10,[none,none,some 37,some 63,none,none],none⟩,⟨(.int .u64),[none],none⟩,⟨(.int .i64),[none],none⟩],F_alloc_New⟩
theorem S_alloc_New:Snd E_alloc_New:=ent_ok te_ok mix_ok (sc S_page_Proper (sc S_alloc_Asks (sc S_header_Size (sc S_alloc_place (sc S_object_Init sn))))) (fn:=Tryz.f38) (by kernel_rfl) (by kernel_rfl) (F:=F_alloc_New) rfl
noncomputable def F_alloc_Room (d:Pden [.val Y10]):Option (Rden [⟨(.int .i64),[none],none⟩] × Oden [.val Y10]):=FT [E_page_Proper.ent] [] 22 Tryz.f41 [.p] [.val Y10] [⟨(.int .i64),[none],none⟩] d
noncomputable def E_alloc_Room:Entry:=⟨41,[.p],[.val Y10],[⟨(.int .i64),[none],none⟩],F_alloc_Room⟩
theorem S_alloc_Room:Snd E_alloc_Room:=ent_ok te_ok mix_ok (sc S_page_Proper sn) (fn:=Tryz.f41) (by kernel_rfl) (by kernel_rfl) (F:=F_alloc_Room) rfl
noncomputable def F_l07_awake (d:Pden []):Option (Rden [⟨.bool,[none],none⟩] × Oden []):=FT [E_r04_New.ent,E_l07_words.ent,E_alloc_New.ent,E_alloc_Room.ent] [] 34 Tryz.f43 [] [] [⟨.bool,[none],none⟩] d
noncomputable def E_l07_awake:Entry:=⟨43,[],[],[⟨.bool,[none],none⟩],F_l07_awake⟩
theorem S_l07_awake:Snd E_l07_awake:=ent_ok te_ok mix_ok (sc S_r04_New (sc S_l07_words (sc S_alloc_New (sc S_alloc_Room sn)))) (fn:=Tryz.f43) (by kernel_rfl) (by kernel_rfl) (F:=F_l07_awake) rfl
noncomputable def F_r01_Same (d:Pden [.val Y4,.val Y4]):Option (Rden [⟨.bool,[none],none⟩] × Oden [.val Y4,.val Y4]):=FT [] [⟨0,[],⟨[4,5],[.val .bool,.val (.int .i64)],[],[],[]⟩,[(.ret,⟨[4],[.val .bool],[],[],[]⟩),(.exit 0,⟨[4],[.val .bool],[],[],[]⟩)]⟩] 26 Tryz.f18 [.p,.p] [.val Y4,.val Y4] [⟨.bool,[none],none⟩] d
noncomputable def E_r01_Same:Entry:=⟨18,[.p,.p],[.val Y4,.val Y4],[⟨.bool,[none],none⟩],F_r01_Same⟩
theorem S_r01_Same:Snd E_r01_Same:=ent_ok te_ok mix_ok sn (fn:=Tryz.f18) (by kernel_rfl) (by kernel_rfl) (F:=F_r01_Same) rfl
noncomputable def F_l07_AllocKeeps (d:Pden [.val Y0,.val Y0]):Option (Rden [⟨.bool,[none],none⟩] × Oden [.val Y0,.val Y0]):=FT [E_made_Make.ent,E_made_Tape_Header.ent,E_alloc_New.ent,E_l07_awake.ent,E_r06_Objects.ent,E_r06_Has.ent,E_r09_Good.ent,E_r05_Fields.ent,E_r05_Get.ent,E_r01_Same.ent] [⟨0,[],⟨[4,14],[.val .bool,.val (.int .i64)],[],[],[]⟩,[(.ret,⟨[4],[.val .bool],[],[],[]⟩),(.exit 0,⟨[4],[.val .bool],[],[],[]⟩)]⟩,⟨2,[],⟨[4,25],[.val .bool,.val (.int .i64)],[],[],[]⟩,[(.ret,⟨[4],[.val .bool],[],[],[]⟩),(.exit 2,⟨[4],[.val .bool],[],[],[]⟩)]⟩] 175 Tryz.f10 [.p,.p] [.val Y0,.val Y0] [⟨.bool,[none],none⟩] d
noncomputable def E_l07_AllocKeeps:Entry:=⟨10,[.p,.p],[.val Y0,.val Y0],[⟨.bool,[none],none⟩],F_l07_AllocKeeps⟩
theorem S_l07_AllocKeeps:Snd E_l07_AllocKeeps:=ent_ok te_ok mix_ok (sc S_made_Make (sc S_made_Tape_Header (sc S_alloc_New (sc S_l07_awake (sc S_r06_Objects (sc S_r06_Has (sc S_r09_Good (sc S_r05_Fields (sc S_r05_Get (sc S_r01_Same sn)))))))))) (fn:=Tryz.f10) (by kernel_rfl) (by kernel_rfl) (F:=F_l07_AllocKeeps) rfl
end Go.VI
