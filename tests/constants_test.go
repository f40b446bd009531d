package tests

import (
	"testing"

	"loop.example/underveil/impl"
)

func TestConstants(t *testing.T) {
	for _, c := range []struct {
		name      string
		got, want int
	}{
		{"FieldMod", impl.FieldMod, 113}, {"GroupMod", impl.GroupMod, 227},
		{"BaseG", impl.BaseG, 4}, {"BaseH", impl.BaseH, 9},
		{"PolyMost", impl.PolyMost, 20}, {"RowMost", impl.RowMost, 8}, {"PartyMost", impl.PartyMost, 7},
		{"GateMost", impl.GateMost, 16}, {"InputMost", impl.InputMost, 6},
		{"GateInput", impl.GateInput, 0}, {"GateConst", impl.GateConst, 1}, {"GateAdd", impl.GateAdd, 2},
		{"GateSub", impl.GateSub, 3}, {"GateMul", impl.GateMul, 4},
		{"TapeMost", impl.TapeMost, 800}, {"ChoiceMost", impl.ChoiceMost, 8}, {"TableMost", impl.TableMost, 16},
		{"CellMost", impl.CellMost, 8}, {"BucketMost", impl.BucketMost, 3}, {"StashMost", impl.StashMost, 8},
		{"AccessMost", impl.AccessMost, 40}, {"EitherMost", impl.EitherMost, 6}, {"MessageMost", impl.MessageMost, 8},
		{"ShuffleMost", impl.ShuffleMost, 6}, {"SetMost", impl.SetMost, 8}, {"AmountBits", impl.AmountBits, 4},
		{"CoinMost", impl.CoinMost, 3}, {"NoiseMost", impl.NoiseMost, 8}, {"LossMost", impl.LossMost, 5},
	} {
		if c.got != c.want {
			t.Errorf("%s is %d, not %d", c.name, c.got, c.want)
		}
	}
}
