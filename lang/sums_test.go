package lang_test

import (
	"math/rand"
	"strings"
	"testing"

	"arcade/api"
)

// some are numbers at whose sides sums change.
var some = []int{0, 1, 2, 3, 7, 8, 9, 14, 15, 16, 17, 100, 127, 128, 254, 255, 256, 257, 511, 4095, 4096, 12345, 32767, 32768, 32769, 54321, 65279, 65280, 65281, 65534, 65535}

// Sums that are worked out by hand.
func TestL1SumsByHand(t *testing.T) {
	t.Parallel()
	for source, value := range map[string]int{
		"65535+1": 0, "65535+65535": 65534, "32768+32768": 0, "1-2": 65535, "0-65535": 1, "0-1-1": 65534, "300*300": 24464, "65535*65535": 1, "256*256": 0, "255*257": 65535, "40000*2": 14464,
		"7/2": 3, "65535/1": 65535, "65535/65535": 1, "1/65535": 0, "0/9": 0, "65535/256": 255, "40000/7": 5714, "65534/65535": 0, "32768/2": 16384, "65535/32768": 1,
		"7%2": 1, "65535%1": 0, "65535%65535": 0, "1%65535": 1, "0%9": 0, "65535%256": 255, "40000%7": 2, "65534%65535": 65534, "65535%32769": 32766,
		"1<<0": 1, "1<<1": 2, "1<<15": 32768, "1<<16": 0, "1<<17": 0, "1<<255": 0, "1<<256": 0, "1<<257": 0, "1<<65535": 0, "65535<<15": 32768, "65535<<1": 65534, "65535<<16": 0, "65535<<32": 0, "65535<<64": 0, "3<<14": 49152, "3<<15": 32768, "0<<5": 0, "1<<272": 0,
		"65535>>0": 65535, "65535>>1": 32767, "65535>>15": 1, "32768>>15": 1, "32767>>15": 0, "65535>>16": 0, "65535>>17": 0, "65535>>256": 0, "65535>>257": 0, "65535>>65535": 0, "65535>>32": 0, "65535>>64": 0, "0>>1": 0, "65535>>272": 0,
		"$f0f0&$ff00": 0xf000, "$f0f0|$ff00": 0xfff0, "$f0f0^$ff00": 0x0ff0, "5&2": 0, "5|2": 7, "5^5": 0,
		"1<2": 1, "2<2": 0, "3<2": 0, "1<=2": 1, "2<=2": 1, "3<=2": 0, "1>2": 0, "2>2": 0, "3>2": 1, "1>=2": 0, "2>=2": 1, "3>=2": 1, "1==2": 0, "2==2": 1, "1!=2": 1, "2!=2": 0,
		"65535>0": 1, "65535<0": 0, "-1>1": 1, "32768>32767": 1, "32767<32768": 1, "256>255": 1, "256<255": 0, "255<=256": 1, "$0100==$0001": 0, "$0101==$0100": 0, "$0101!=$0001": 1, "$ff00>=$00ff": 1,
		"-0": 0, "-1": 65535, "-65535": 1, "-32768": 32768, "-256": 65280, "~0": 65535, "~65535": 0, "~$f0f0": 0x0f0f, "~1": 65534, "!0": 1, "!1": 0, "!256": 0, "!65535": 0, "!!7": 1, "!-1": 0, "-!0": 65535, "~-1": 0, "-~0": 1,
		"2&&4": 1, "2||4": 1, "0||0": 0, "256&&256": 1,
		"5>3>1": 0, "3>2>0": 1, "1<3<2": 1, "10-3-2": 5, "100/7/2": 7, "100%7%2": 0, "2*3/4": 1, "3/4*2": 0, "1<<2<<3": 32, "100>>2>>1": 12, "1==1==1": 1, "2==2==2": 0, "1+2<<3": 24, "1|2^3&1": 3, "6&3==3": 0, "1+2*3-4/2": 5,
	} {
		r := holds(t, "fn main(){return "+source+";}", nil)
		if r.Kind != api.LangDone || r.Value != value {
			t.Errorf("18.4: %s = %v, want %d", source, r, value)
		}
		// Each token of it is a step, if nothing is left out.
		if steps := 1 + len(tokensOf(source)); !strings.Contains(source, "||") && r.Steps != steps {
			t.Errorf("18.4: %s: %v, want %d steps", source, r, steps)
		}
	}
}

// pairs holds a sign of pairs of numbers: of many at once, the run and the machine.
func pairs(t *testing.T, sign string, list [][2]int) {
	t.Helper()
	source := "fn main(){while left(){var x=in();var y=in();var z=x" + sign + "y;out z;out z>>8;}}"
	for len(list) > 0 {
		now := list[:min(32, len(list))]
		list = list[len(now):]
		var in []int
		want := ""
		for _, p := range now {
			in = append(in, p[0], p[1])
			z := modelBetween(sign, p[0], p[1])
			if sign == "&&" && p[0] == 0 || sign == "||" && p[0] != 0 {
				z = min(p[0], 1)
			}
			want += string([]byte{byte(z), byte(z >> 8)})
		}
		r := runs(t, source, in, 100000)
		if r.Kind != api.LangDone || string(r.Out) != want {
			t.Fatalf("18.4: %s of %v = %v, want %q", sign, now, r, want)
		}
		machineDoes(t, source, in, r)
	}
}

// Signs between two, of all pairs of some numbers, and of pairs by lot.
func TestL1L2Pairs(t *testing.T) {
	t.Parallel()
	signs, _ := rowsOf()
	for _, sign := range signs {
		t.Run(sign, func(t *testing.T) {
			t.Parallel()
			var list [][2]int
			add := func(x, y int) {
				if y != 0 || sign != "/" && sign != "%" {
					list = append(list, [2]int{x, y})
				}
			}
			for _, x := range some {
				for _, y := range some {
					add(x, y)
				}
			}
			r := rand.New(rand.NewSource(int64(len(sign)) * int64(sign[0])))
			for range 300 {
				add(r.Intn(65536)>>r.Intn(16), r.Intn(65536)>>r.Intn(16))
			}
			pairs(t, sign, list)
		})
	}
}

// Shifts by each number of places up to 300, and by the greatest.
func TestL1L2Shifts(t *testing.T) {
	t.Parallel()
	for _, sign := range []string{"<<", ">>"} {
		var list [][2]int
		for _, x := range []int{1, 0x8000, 0xffff, 0xa5c3} {
			for y := range 300 {
				list = append(list, [2]int{x, y})
			}
			list = append(list, [2]int{x, 65535}, [2]int{x, 65520}, [2]int{x, 32768}, [2]int{x, 4096})
		}
		pairs(t, sign, list)
	}
}

// Signs ahead, of many numbers.
func TestL1L2Ahead(t *testing.T) {
	t.Parallel()
	for _, sign := range []string{"-", "~", "!"} {
		source := "fn main(){while left(){var z=" + sign + "in();out z;out z>>8;}}"
		list := append([]int{}, some...)
		for i := range 200 {
			list = append(list, i*327+5)
		}
		for len(list) > 0 {
			in := list[:min(64, len(list))]
			list = list[len(in):]
			want := ""
			for _, n := range in {
				z := modelAhead(sign, n)
				want += string([]byte{byte(z), byte(z >> 8)})
			}
			r := runs(t, source, in, 100000)
			if string(r.Out) != want {
				t.Fatalf("18.4: %s of %v = %v, want %q", sign, in, r, want)
			}
			machineDoes(t, source, in, r)
		}
	}
}
