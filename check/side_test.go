package check_test

import (
	"fmt"
	"sync"
	"testing"

	"espalier/api"
	"espalier/check"
)

// R6, and the section Ways: pages are decoded side by side, and what is told is the same each time, also to some who ask of one image at one time.
func TestSideBySide(t *testing.T) {
	both(t, func(t *testing.T, engine int) {
		for i, b := range books(engine) {
			image := imageOf(t, b)
			want, errors := all(image, 512)
			var group sync.WaitGroup
			answers := make([]string, 6)
			for k := range answers {
				group.Go(func() {
					s, e := all(image, 512)
					answers[k] = s + fmt.Sprint(e)
				})
			}
			group.Wait()
			for _, s := range answers {
				same(t, fmt.Sprint("book ", i), s, want+fmt.Sprint(errors))
			}
		}
	})
}

// All numbers of pages about that of those who decode: each page is decoded.
func TestEachPageIsDecoded(t *testing.T) {
	both(t, func(t *testing.T, engine int) {
		for pages := 4; pages < 40; pages++ {
			b := &book{512, pages, api.Meta{Engine: engine, Page: 512, High: 2}, map[int]sheet{}}
			var want []string
			for n := 2; n < pages; n++ {
				c := value(fmt.Sprint("page ", n), "v")
				b.with(n, leaf(c))
				want = append(want, asText(c))
			}
			cells, e := check.Salvage(imageOf(t, b), 512)
			stop(t, "Salvage", e)
			sameList(t, "Salvage", asTexts(cells), want)
			for n := 2; n < pages; n++ {
				b.with(n, list((n+1)%pages))
			}
			b.meta.High, b.meta.Free = pages, 2
			looks(t, fmt.Sprint(pages, " pages"), b, "")
		}
	})
}
