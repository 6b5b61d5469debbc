package judge_test

import (
	"math"
	"slices"
	"strconv"
	"testing"

	"rostrum/api"
)

// asksBundle asks what is told where the offer bundles offered and the answer own, of four Media whose taken ones are told by a mask.
func asksBundle(t *testing.T, mask int, offered, own []string, want int) {
	t.Helper()
	offer := row(4, 0)
	answer := taking(offer)
	for i := range answer.Media {
		if mask>>i&1 == 0 {
			answer.Media[i].Port = 0
		}
	}
	offer.Bundle, answer.Bundle = offered, own
	tells(t, strconv.Itoa(mask), offer, answer, want)
}

// few are the members of the list that the mask tells.
func few(list []string, mask int) []string {
	var own []string
	for i, x := range list {
		if mask>>i&1 == 1 {
			own = append(own, x)
		}
	}
	return own
}

// rows are all rows of members of the list, each member once at most.
func rows(list []string) [][]string {
	all := [][]string{nil}
	for i, x := range list {
		for _, rest := range rows(slices.Delete(slices.Clone(list), i, i+1)) {
			all = append(all, append([]string{x}, rest...))
		}
	}
	return all
}

// Each few of four Media taken, with each row of Mids as the answer's Bundle, all being offered.
func TestBundles(t *testing.T) {
	mids := row(4, 0).Bundle
	for mask := range 1 << len(mids) {
		own := few(mids, mask)
		right := 0
		for _, list := range rows(mids) {
			want := 9
			if slices.Equal(list, own) {
				want = 0
				right++
			}
			asksBundle(t, mask, mids, list, want)
		}
		if right != 1 {
			t.Error(mask, right)
		}
	}
}

// Each row of Mids as the offer's Bundle: its order is nothing that a rule asks for, but what is taken is in it.
func TestOffersBundles(t *testing.T) {
	mids := row(4, 0).Bundle
	for mask := range 1 << len(mids) {
		own := few(mids, mask)
		for _, offered := range rows(mids) {
			want := 0
			for _, mid := range own {
				if !slices.Contains(offered, mid) {
					want = 9
				}
			}
			asksBundle(t, mask, offered, own, want)
		}
	}
}

func TestOddBundles(t *testing.T) {
	mids := row(4, 0).Bundle
	for i := range mids {
		asksBundle(t, 15, mids, append(slices.Clone(mids), mids[i]), 1)
		asksBundle(t, 15, mids, append(slices.Clone(mids), "other"), 1)
		asksBundle(t, 15, mids, append(slices.Clone(mids[:i]), "other"), 1)
		asksBundle(t, 15, append(slices.Clone(mids), mids[i]), mids, 1)
		asksBundle(t, 15, append(slices.Clone(mids), "other"), mids, 1)
	}
	asksBundle(t, 0, nil, nil, 0)
	asksBundle(t, 1, nil, mids[:1], 9)
	asksBundle(t, 1, nil, nil, 9)
	asksBundle(t, 0, mids, mids, 9)
	asksBundle(t, 0, nil, mids, 9)
}

// Mids that don't rise with their places: the order is the Media's.
func TestBundleOfMidsNotSorted(t *testing.T) {
	offer := of(audio("z"), data("m"), video("a"), audio("b"))
	slices.Sort(offer.Bundle)
	answer := taking(offer)
	tells(t, "the Media's order", offer, answer, 0)
	answer.Bundle = slices.Clone(offer.Bundle)
	tells(t, "sorted, as the offer's", offer, answer, 9)
}

// Each two of many Versions.
func TestVersions(t *testing.T) {
	list := []uint64{0, 1, 2, 9, 10, math.MaxInt64, math.MaxInt64 + 1, math.MaxUint64 - 1, math.MaxUint64}
	for bit := range 64 {
		list = append(list, 1<<bit)
	}
	for _, a := range list {
		for _, b := range list {
			want := 0
			if a != b {
				want = 10
			}
			for n := range 3 {
				offer := row(n, 0)
				answer := taking(offer)
				offer.Version, answer.Version = a, b
				offer.ID, answer.ID = b, a
				tells(t, "versions", offer, answer, want)
			}
		}
	}
	for i := range api.MostParts {
		offer := row(api.MostParts, 0)
		answer := taking(offer)
		answer.Version = math.MaxUint64
		refuse(&answer, i)
		tells(t, "one not taken", offer, answer, 10)
	}
}
